/- The greatest common divisor: the program's and the reference's. -/
import Derived.Test.YtikgcogiiohahaaGreatDoorRows
import Derived.Test.YtikgcogiiohahaaGreatDoorNumMath
import Derived.WalkKit
import Derived.WalkSpells
import Derived.WalkLawsBesides
import Derived.IntWalk
import Derived.Lib.Hide
import Derived.Deep.QuietTactic
import Derived.BigQuiet
namespace Go.Proofs.YtikgcogiiohahaaGreatDoor
set_option maxRecDepth 100000
open Go.RowKit
set_option linter.unusedVariables false

theorem gcd_step {x y : Int} (h : y ≠ 0) : Int.gcd y (x.tmod y) = Int.gcd x y := by
  unfold Int.gcd
  rw [Int.natAbs_tmod, Nat.gcd_comm y.natAbs, ← Nat.gcd_rec, Nat.gcd_comm]
theorem tmod_in2 {x y : Int} (h : y ≠ 0) (h0 : -4000000000000000000 ≤ y) (h1 : y ≤ 4000000000000000000) : -4000000000000000000 ≤ x.tmod y ∧ x.tmod y ≤ 4000000000000000000 ∧ (x.tmod y).natAbs < y.natAbs := by
  have e := Int.natAbs_tmod x y
  have l : x.natAbs % y.natAbs < y.natAbs := Nat.mod_lt _ (by omega)
  omega
theorem gcd_zero (x : Int) : (Int.gcd x 0 : Int) = max x (-x) := by
  rw [Int.gcd_zero_right]; omega
theorem ret_i {a b : Int} (h : a = b) : Ending.returned (.int .i64 a) = .returned (.int .i64 b) := by rw [h]

set_option maxHeartbeats 1000000 in
theorem implGcd (a b : Int) (w : World) (ha : -4000000000000000000 ≤ a) (ha' : a ≤ 4000000000000000000) (hb : -4000000000000000000 ≤ b) (hb' : b ≤ 4000000000000000000) :
    Calls Tryz.prog 59 #[.int .i64 a, .int .i64 b] w fun e w' => e = .returned (.int .i64 (Int.gcd a b)) ∧ ∃ m, w' = w.drewN m := by
  go_enter Tryz.func59, Tryz.ntmps59
  go_wp2
  go_loopw [0, 1] (fun u v wr => ∃ (x y : Int) (m : Nat), u = .int .i64 x ∧ v = .int .i64 y ∧ -4000000000000000000 ≤ x ∧ x ≤ 4000000000000000000 ∧ -4000000000000000000 ≤ y ∧ y ≤ 4000000000000000000 ∧ Int.gcd x y = Int.gcd a b ∧ wr = w.drewN m) (fun _ v _ => (intOf v).natAbs)
  case atStart => exact ⟨a, b, 0, rfl, rfl, ha, ha', hb, hb', rfl, rfl⟩
  case round =>
    obtain ⟨x, y, m, rfl, rfl, hx, hx', hy, hy', hg, rfl⟩ := hrel
    have G := Lib.hid hg
    clear hg
    by_cases h0 : y = 0
    · subst h0
      by_cases hs : 0 ≤ x
      · have X := Lib.hid (show (Int.gcd a b : Int) = x by rw [← G.out, gcd_zero]; omega)
        go_wp2
        go_ret
        exact ⟨ret_i X.out.symm, m, rfl⟩
      · have X := Lib.hid (show (Int.gcd a b : Int) = -x by rw [← G.out, gcd_zero]; omega)
        go_wp2
        go_ret
        exact ⟨ret_i X.out.symm, m, rfl⟩
    · have hm := tmod_in2 (x := x) h0 hy hy'
      have S := Lib.hid (gcd_step (x := x) h0)
      have m1 := hm.1
      have m2 := hm.2.1
      have M3 := Lib.hid hm.2.2
      clear hm
      go_wp2
      go_quiet (fail)
      go_wp2
      go_roundw
      case rel => exact ⟨y, x.tmod y, _, rfl, rfl, hy, hy', m1, m2, S.out.trans G.out, World.drewN_drewN _ _ _⟩
      case measure => exact M3.out

theorem specAbs (a : Int) (w : World) (h0 : -4000000000000000000 ≤ a) (h1 : a ≤ 4000000000000000000) :
    Calls Tryz.prog 75 #[.int .i64 a] w fun e w' => e = .returned (.int .i64 (a.natAbs : Int)) ∧ w = w' := by
  by_cases hs : a < 0
  · have X := Lib.hid (show (a.natAbs : Int) = -a by omega)
    go_enter Tryz.func75, Tryz.ntmps75
    go_wp2
    go_ret
    exact ⟨ret_i X.out.symm, rfl⟩
  · have X := Lib.hid (show (a.natAbs : Int) = a by omega)
    go_enter Tryz.func75, Tryz.ntmps75
    go_wp2
    go_ret
    exact ⟨ret_i X.out.symm, rfl⟩

set_option maxHeartbeats 1000000 in
theorem specGcd (a b : Int) (w : World) (ha : -4000000000000000000 ≤ a) (ha' : a ≤ 4000000000000000000) (hb : -4000000000000000000 ≤ b) (hb' : b ≤ 4000000000000000000) :
    Calls Tryz.prog 66 #[.int .i64 a, .int .i64 b] w fun e w' => e = .returned (.int .i64 (Int.gcd a b)) ∧ w = w' := by
  obtain ⟨u, hu⟩ : ∃ u : Int, (a.natAbs : Int) = u := ⟨_, rfl⟩
  obtain ⟨v, hv⟩ : ∃ v : Int, (b.natAbs : Int) = v := ⟨_, rfl⟩
  have C1 := Lib.hid (hu ▸ specAbs a w ha ha')
  have C2 := Lib.hid (hv ▸ specAbs b w hb hb')
  have u0 : 0 ≤ u := by omega
  have u1 : u ≤ 4000000000000000000 := by omega
  have v0 : 0 ≤ v := by omega
  have v1 : v ≤ 4000000000000000000 := by omega
  have E := Lib.hid (show Int.gcd u v = Int.gcd a b by rw [← hu, ← hv]; simp; rfl)
  clear hu hv
  go_enter Tryz.func66, Tryz.ntmps66
  go_wp2_with fail
  refine C1.out.mono ?_
  rintro e w' ⟨rfl, rfl⟩
  go_wp2_with fail
  refine C2.out.mono ?_
  rintro e w' ⟨rfl, rfl⟩
  go_wp2
  go_loop [5, 6] (fun p q => ∃ (x y : Int), p = .int .i64 x ∧ q = .int .i64 y ∧ 0 ≤ x ∧ x ≤ 4000000000000000000 ∧ 0 ≤ y ∧ y ≤ 4000000000000000000 ∧ Int.gcd x y = Int.gcd a b) (fun _ q => (intOf q).natAbs)
  case atStart => exact ⟨u, v, rfl, rfl, u0, u1, v0, v1, E.out⟩
  case round =>
    obtain ⟨x, y, rfl, rfl, hx, hx', hy, hy', hg⟩ := hrel
    have G := Lib.hid hg
    clear hg
    by_cases h0 : y = 0
    · subst h0
      have X := Lib.hid (show (Int.gcd a b : Int) = x by rw [← G.out, gcd_zero]; omega)
      go_wp2
      go_ret
      exact ⟨ret_i X.out.symm, rfl⟩
    · have hm := Int.emod_lt_of_pos x (show 0 < y by omega)
      have hm' := Int.emod_nonneg x (show y ≠ 0 by omega)
      have S := Lib.hid (show Int.gcd y (x % y) = Int.gcd x y by
        have := gcd_step (x := x) h0
        rwa [Int.tmod_eq_emod_of_nonneg hx] at this)
      go_wp2
      go_round
      case rel => exact ⟨y, x % y, rfl, rfl, hy, hy', hm', by omega, S.out.trans G.out⟩
      case measure => show (x % y).natAbs < y.natAbs; omega
end Go.Proofs.YtikgcogiiohahaaGreatDoor
