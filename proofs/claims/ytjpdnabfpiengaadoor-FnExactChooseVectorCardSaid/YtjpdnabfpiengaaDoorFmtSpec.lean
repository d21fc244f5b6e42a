/- The text of an integer: the specification's function, against one plain function. -/
import Derived.Test.YtjpdnabfpiengaaDoorRows
import Derived.Test.YtjpdnabfpiengaaDoorFmtMath
import Derived.WalkKit
import Derived.WalkSpells
import Derived.WalkLawsBesides
import Derived.Lib.Hide
namespace Go.Proofs.YtjpdnabfpiengaaDoor
set_option maxRecDepth 100000
open Go.RowKit

theorem ret_strF {a b : ByteArray} (h : a = b) : Ending.returned (.string a) = .returned (.string b) := by rw [h]
set_option maxHeartbeats 1000000 in
theorem specFmtPos (n : Nat) (w : World) (h : n ≤ 9223372036854775807) (h0 : 0 < n) :
    Calls Tryd.prog 82 #[.int .i64 n] w fun e w' => e = .returned (.string ⟨(Lib.decDigits n).toArray⟩) ∧ w = w' := by
  go_enter Tryd.func82, Tryd.ntmps82
  go_wp2
  go_loop [3, 4] (fun v x => ∃ a : Nat, a ≤ n ∧ x = .int .i64 a ∧ DigAt n a v) (fun _ x => (intOf x).toNat)
  case atStart => exact ⟨n, Nat.le_refl _, rfl, DigAt.start n⟩
  case round =>
    obtain ⟨a, ha, rfl, ⟨acc, rfl, hd⟩⟩ := hrel
    have hal := acc_len hd (by omega) h0
    have D := Lib.hid hd
    clear hd
    by_cases hz : 0 < a
    · have hx := digit_text (a % 10) (by omega)
      go_wp2
      go_round
      case rel => exact ⟨a / 10, by omega, by go_num, DigAt.step D.out (by omega) rfl⟩
      case measure => simp [intOf]; omega
    · obtain rfl : a = 0 := by omega
      have X := Lib.hid (digs_pos n (by omega))
      go_wp2
      go_ret
      exact ⟨ret_strF (by rw [← X.out, ← D.out]; rfl), rfl⟩
theorem int0 (a : Nat) (h : 0 < a) : (-(a : Int) != 0) = true := by simp; omega
set_option maxHeartbeats 1000000 in
theorem specFmtNeg (n : Nat) (w : World) (h : n ≤ 9223372036854775808) (h0 : 0 < n) :
    Calls Tryd.prog 82 #[.int .i64 (-(n : Int))] w fun e w' => e = .returned (.string ⟨(45 :: Lib.decDigits n).toArray⟩) ∧ w = w' := by
  have g0 : (-(n : Int) == 0) = false := by simp; omega
  have g1 : -(n : Int) < 0 := by omega
  go_enter Tryd.func82, Tryd.ntmps82
  go_wp2
  go_loop [3, 4] (fun v x => ∃ a : Nat, a ≤ n ∧ x = .int .i64 (-(a : Int)) ∧ DigAt n a v) (fun _ x => (-(intOf x)).toNat)
  case atStart => exact ⟨n, Nat.le_refl _, rfl, DigAt.start n⟩
  case round =>
    obtain ⟨a, ha, rfl, ⟨acc, rfl, hd⟩⟩ := hrel
    have hal := acc_len hd h h0
    have D := Lib.hid hd
    clear hd
    by_cases hz : 0 < a
    · have hx := digit_text (a % 10) (by omega)
      have HX := Lib.hid hx
      have q1 := neg_tdiv a
      have q2 := neg_tmod a
      have q3 := int0 a hz
      go_wp2
      · go_round
        case rel => exact ⟨a / 10, by omega, by go_num, DigAt.step D.out (by omega) rfl⟩
        case measure => simp [intOf]; omega
      · go_round
        case rel => exact ⟨a / 10, by omega, by go_num, DigAt.step D.out (by omega) (by
          have e1 : (-((a : Int) % 10)).toNat = a % 10 := by omega
          have e2 : (-((a : Int) % 10) + 1).toNat = a % 10 + 1 := by omega
          rw [e1, e2, HX.out])⟩
        case measure => simp [intOf]; omega
    · obtain rfl : a = 0 := by omega
      have X := Lib.hid (digs_pos n (by omega))
      go_wp2
      go_ret
      exact ⟨ret_strF (by rw [← X.out, ← D.out]; exact bytes_cat [45] acc), rfl⟩
theorem specFmtZero (w : World) :
    Calls Tryd.prog 82 #[.int .i64 0] w fun e w' => e = .returned (.string ⟨#[48]⟩) ∧ w = w' := by
  go_enter Tryd.func82, Tryd.ntmps82
  go_wp2
  go_loop [3, 4] (fun _ x => x = .int .i64 0) (fun _ x => (intOf x).toNat)
  case atStart => exact rfl
  case round =>
    obtain rfl := hrel
    go_wp2
    go_ret
    exact ⟨rfl, rfl⟩
/-- THE SPECIFICATION's FormatInt, AT EVERY int. -/
theorem specFmt (n : Int) (w : World) (h0 : -9223372036854775808 ≤ n) (h1 : n ≤ 9223372036854775807) :
    Calls Tryd.prog 82 #[.int .i64 n] w fun e w' => e = .returned (.string ⟨(Lib.itoa n).toArray⟩) ∧ w = w' := by
  by_cases hz : n = 0
  · subst hz
    have e : Lib.itoa 0 = [48] := by
      rw [show (0 : Int) = ((0 : Nat) : Int) from rfl, Lib.itoa_nonneg, Lib.decDigits_one (by omega)]; rfl
    rw [e]
    exact specFmtZero w
  · by_cases hp : 0 < n
    · obtain ⟨a, rfl⟩ : ∃ a : Nat, n = a := ⟨n.toNat, by omega⟩
      rw [Lib.itoa_nonneg]
      exact specFmtPos a w (by omega) (by omega)
    · obtain ⟨a, rfl⟩ : ∃ a : Nat, n = -(a : Int) := ⟨(-n).toNat, by omega⟩
      rw [Lib.itoa_neg a (by omega)]
      exact specFmtNeg a w (by omega) (by omega)
end Go.Proofs.YtjpdnabfpiengaaDoor
