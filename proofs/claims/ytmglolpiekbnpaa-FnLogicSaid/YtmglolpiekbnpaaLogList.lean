/- AllLogical and AnyLogical: the program's and the reference's. -/
import Derived.Test.YtmglolpiekbnpaaRows
import Derived.Test.YtmglolpiekbnpaaLogic
import Derived.Test.YtmglolpiekbnpaaInts
namespace Go.Proofs.Ytmglolpiekbnpaa
open Go.RowKit
set_option linter.unusedVariables false

def allF (f : Nat → Int) : Nat → Int
  | 0 => 1
  | n + 1 => aL (allF f n) (f n)
def anyF (f : Nat → Int) : Nat → Int
  | 0 => 0
  | n + 1 => oL (anyF f n) (f n)
theorem allF_three (f : Nat → Int) (n : Nat) : L3 (allF f n) := by
  cases n with
  | zero => exact Or.inr (Or.inl rfl)
  | succ n => exact aL_three _ _
theorem anyF_three (f : Nat → Int) (n : Nat) : L3 (anyF f n) := by
  cases n with
  | zero => exact Or.inl rfl
  | succ n => exact oL_three _ _
theorem anyF_not (f : Nat → Int) (n : Nat) : anyF (fun i => nL (f i)) n = nL (allF f n) := by
  induction n with
  | zero => rfl
  | succ n ih => show oL (anyF (fun i => nL (f i)) n) (nL (f n)) = nL (aL (allF f n) (f n)); rw [ih, nL_oL]
theorem anyF_congr {f g : Nat → Int} {n : Nat} (h : ∀ i, i < n → f i = g i) : anyF f n = anyF g n := by
  induction n with
  | zero => rfl
  | succ n ih => show oL (anyF f n) (f n) = oL (anyF g n) (g n); rw [ih (fun i hi => h i (by omega)), h n (by omega)]
theorem val_l {a b : Int} (h : a = b) : Value.int .i64 a = .int .i64 b := by rw [h]

set_option maxHeartbeats 1000000 in
theorem implAll (a : Option Addr) (n cap : Nat) (f : Nat → Int) (B : Nat) (w : World) (hs : IntsAt B w a n f) (hn : n ≤ 9223372036854775807) :
    Calls Try.prog 34 #[.slice a n cap] w fun e w' => e = .returned (.int .i64 (allF f n)) ∧ w = w' := by
  have S := Lib.hid hs
  clear hs
  go_enter Try.func34, Try.ntmps34
  go_wp2
  go_loop [3, 8] (fun v i => ∃ k : Nat, k ≤ n ∧ v = .int .i64 (allF f k) ∧ i = .int .i64 k) (fun _ i => n - (intOf i).toNat)
  case atStart => exact ⟨0, Nat.zero_le _, rfl, rfl⟩
  case round =>
    obtain ⟨k, hk, rfl, rfl⟩ := hrel
    by_cases hlt : k < n
    · obtain ⟨b, off, rfl, hb, hc⟩ := S.out k hlt
      have hlt' : (k : Int) < (n : Int) := by omega
      have V := Lib.hid (implVal (f k) w)
      have A := Lib.hid (implAnd3 (allF f k) (vL (f k)) w (allF_three f k) (vL_three _))
      rw [aL_r, show aL (allF f k) (f k) = allF f (k + 1) from rfl] at A
      obtain ⟨u, hu⟩ : ∃ u, vL (f k) = u := ⟨_, rfl⟩
      obtain ⟨x, hx⟩ : ∃ x, f k = x := ⟨_, rfl⟩
      rw [hu] at V A
      rw [hx] at V hc
      clear hu hx
      go_wp2_with fail
      refine V.out.mono ?_
      rintro e w' ⟨rfl, rfl⟩
      go_wp2_with fail
      refine A.out.mono ?_
      rintro e w' ⟨rfl, rfl⟩
      go_wp2
      go_round
      case rel => exact ⟨k + 1, by omega, rfl, by go_num⟩
      case measure => simp [intOf]; omega
    · obtain rfl : k = n := by omega
      go_wp2
      go_ret
      exact ⟨rfl, rfl⟩

set_option maxHeartbeats 1000000 in
theorem implAny (a : Option Addr) (n cap : Nat) (f : Nat → Int) (B : Nat) (w : World) (hs : IntsAt B w a n f) (hn : n ≤ 9223372036854775807) :
    Calls Try.prog 35 #[.slice a n cap] w fun e w' => e = .returned (.int .i64 (anyF f n)) ∧ w = w' := by
  have S := Lib.hid hs
  clear hs
  go_enter Try.func35, Try.ntmps35
  go_wp2
  go_loop [3, 8] (fun v i => ∃ k : Nat, k ≤ n ∧ v = .int .i64 (anyF f k) ∧ i = .int .i64 k) (fun _ i => n - (intOf i).toNat)
  case atStart => exact ⟨0, Nat.zero_le _, rfl, rfl⟩
  case round =>
    obtain ⟨k, hk, rfl, rfl⟩ := hrel
    by_cases hlt : k < n
    · obtain ⟨b, off, rfl, hb, hc⟩ := S.out k hlt
      have hlt' : (k : Int) < (n : Int) := by omega
      have V := Lib.hid (implVal (f k) w)
      have A := Lib.hid (implOr3 (anyF f k) (vL (f k)) w (anyF_three f k) (vL_three _))
      rw [oL_r, show oL (anyF f k) (f k) = anyF f (k + 1) from rfl] at A
      obtain ⟨u, hu⟩ : ∃ u, vL (f k) = u := ⟨_, rfl⟩
      obtain ⟨x, hx⟩ : ∃ x, f k = x := ⟨_, rfl⟩
      rw [hu] at V A
      rw [hx] at V hc
      clear hu hx
      go_wp2_with fail
      refine V.out.mono ?_
      rintro e w' ⟨rfl, rfl⟩
      go_wp2_with fail
      refine A.out.mono ?_
      rintro e w' ⟨rfl, rfl⟩
      go_wp2
      go_round
      case rel => exact ⟨k + 1, by omega, rfl, by go_num⟩
      case measure => simp [intOf]; omega
    · obtain rfl : k = n := by omega
      go_wp2
      go_ret
      exact ⟨rfl, rfl⟩

set_option maxHeartbeats 1000000 in
theorem specAll (a : Option Addr) (n cap : Nat) (f : Nat → Int) (B : Nat) (w : World) (hs : IntsAt B w a n f) (hn : n ≤ 9223372036854775807) :
    Calls Try.prog 37 #[.slice a n cap] w fun e w' => e = .returned (.int .i64 (allF f n)) ∧ w = w' := by
  have S := Lib.hid hs
  clear hs
  go_enter Try.func37, Try.ntmps37
  go_wp2
  go_loop [3, 4] (fun v i => ∃ k : Nat, k ≤ n ∧ v = .int .i64 (allF f k) ∧ i = .int .i64 k) (fun _ i => n - (intOf i).toNat)
  case atStart => exact ⟨0, Nat.zero_le _, rfl, rfl⟩
  case round =>
    obtain ⟨k, hk, rfl, rfl⟩ := hrel
    by_cases hlt : k < n
    · obtain ⟨b, off, rfl, hb, hc⟩ := S.out k hlt
      have hlt' : (k : Int) < (n : Int) := by omega
      have A := Lib.hid (specAndL (allF f k) (f k) w)
      rw [show aL (allF f k) (f k) = allF f (k + 1) from rfl] at A
      obtain ⟨x, hx⟩ : ∃ x, f k = x := ⟨_, rfl⟩
      rw [hx] at A hc
      clear hx
      go_wp2_with fail
      refine A.out.mono ?_
      rintro e w' ⟨rfl, rfl⟩
      go_wp2
      go_round
      case rel => exact ⟨k + 1, by omega, rfl, by go_num⟩
      case measure => simp [intOf]; omega
    · obtain rfl : k = n := by omega
      go_wp2
      go_ret
      exact ⟨rfl, rfl⟩

set_option maxHeartbeats 1000000 in
theorem specAny (a : Option Addr) (n cap : Nat) (f : Nat → Int) (B : Nat) (w : World) (hs : IntsAt B w a n f) (hn : n ≤ 9223372036854775807) :
    Calls Try.prog 40 #[.slice a n cap] w fun e w' => e = .returned (.int .i64 (anyF f n)) ∧ w = w' := by
  have S := Lib.hid hs
  clear hs
  go_enter Try.func40, Try.ntmps40
  go_wp2
  go_loop [3, 4] (fun v i => ∃ k : Nat, k ≤ n ∧ v = .int .i64 (anyF f k) ∧ i = .int .i64 k) (fun _ i => n - (intOf i).toNat)
  case atStart => exact ⟨0, Nat.zero_le _, rfl, rfl⟩
  case round =>
    obtain ⟨k, hk, rfl, rfl⟩ := hrel
    by_cases hlt : k < n
    · obtain ⟨b, off, rfl, hb, hc⟩ := S.out k hlt
      have hlt' : (k : Int) < (n : Int) := by omega
      have A := Lib.hid (specOrL (anyF f k) (f k) w)
      rw [show oL (anyF f k) (f k) = anyF f (k + 1) from rfl] at A
      obtain ⟨x, hx⟩ : ∃ x, f k = x := ⟨_, rfl⟩
      rw [hx] at A hc
      clear hx
      go_wp2_with fail
      refine A.out.mono ?_
      rintro e w' ⟨rfl, rfl⟩
      go_wp2
      go_round
      case rel => exact ⟨k + 1, by omega, rfl, by go_num⟩
      case measure => simp [intOf]; omega
    · obtain rfl : k = n := by omega
      go_wp2
      go_ret
      exact ⟨rfl, rfl⟩
end Go.Proofs.Ytmglolpiekbnpaa
