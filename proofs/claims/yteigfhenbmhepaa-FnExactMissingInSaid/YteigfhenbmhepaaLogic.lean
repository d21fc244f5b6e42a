/- Three-valued logic on ints: the program's and the reference's functions. -/
import Derived.Test.YteigfhenbmhepaaRows
import Derived.WalkKit
import Derived.WalkSpells
import Derived.WalkLawsBesides
import Derived.IntWalk
import Derived.Lib.Hide
import Derived.ProofKit
import Derived.Below
namespace Go.Proofs.Yteigfhenbmhepaa
set_option maxRecDepth 100000
open Go.RowKit
set_option linter.unusedVariables false

/-- The three values: 0, 1 and missing. -/
def vL (x : Int) : Int := if x = 0 then 0 else if x = 1 then 1 else 2
def nL (x : Int) : Int := if x = 0 then 1 else if x = 1 then 0 else 2
def aL (x y : Int) : Int := if x = 0 ∨ y = 0 then 0 else if x = 1 ∧ y = 1 then 1 else 2
def oL (x y : Int) : Int := if x = 1 ∨ y = 1 then 1 else if x = 0 ∧ y = 0 then 0 else 2
def xL (x y : Int) : Int := if (x = 0 ∨ x = 1) ∧ (y = 0 ∨ y = 1) then (if x = y then 0 else 1) else 2
def L3 (x : Int) : Prop := x = 0 ∨ x = 1 ∨ x = 2
theorem vL_three (x : Int) : L3 (vL x) := by unfold vL L3; split <;> (try split) <;> omega
theorem nL_three (x : Int) : L3 (nL x) := by unfold nL L3; split <;> (try split) <;> omega
theorem aL_three (x y : Int) : L3 (aL x y) := by unfold aL L3; split <;> (try split) <;> omega
theorem oL_three (x y : Int) : L3 (oL x y) := by unfold oL L3; split <;> (try split) <;> omega
theorem xL_three (x y : Int) : L3 (xL x y) := by unfold xL L3; split <;> (try split) <;> omega
theorem L3.in {x : Int} (h : L3 x) : -9223372036854775808 ≤ x ∧ x ≤ 9223372036854775807 := by unfold L3 at h; omega
theorem vL_self {x : Int} (h : L3 x) : vL x = x := by rcases h with rfl | rfl | rfl <;> rfl
theorem nL_v (x : Int) : nL (vL x) = nL x := by unfold nL vL; repeat' split
                                                all_goals omega
theorem aL_v (x y : Int) : aL (vL x) (vL y) = aL x y := by unfold aL vL; repeat' split
                                                           all_goals omega
theorem aL_r (x y : Int) : aL x (vL y) = aL x y := by unfold aL vL; repeat' split
                                                      all_goals omega
theorem oL_v (x y : Int) : oL (vL x) (vL y) = oL x y := by unfold oL vL; repeat' split
                                                           all_goals omega
theorem oL_r (x y : Int) : oL x (vL y) = oL x y := by unfold oL vL; repeat' split
                                                      all_goals omega
theorem xL_v (x y : Int) : xL (vL x) (vL y) = xL x y := by unfold xL vL; repeat' split
                                                           all_goals omega
theorem oL_morgan (x y : Int) : nL (aL (nL x) (nL y)) = oL x y := by unfold nL aL oL; repeat' split
                                                                     all_goals omega
theorem aL_morgan (x y : Int) : nL (oL (nL x) (nL y)) = aL x y := by unfold nL aL oL; repeat' split
                                                                     all_goals omega
theorem xL_parts (x y : Int) : oL (aL x (nL y)) (aL (nL x) y) = xL x y := by unfold nL aL oL xL; repeat' split
                                                                             all_goals omega
theorem oL_comm (x y : Int) : oL y x = oL x y := by unfold oL; repeat' split
                                                    all_goals omega
theorem nL_oL (x y : Int) : oL (nL x) (nL y) = nL (aL x y) := by unfold nL aL oL; repeat' split
                                                                 all_goals omega
theorem ret_l {a b : Int} (h : a = b) : Ending.returned (.int .i64 a) = .returned (.int .i64 b) := by rw [h]

set_option maxHeartbeats 1000000 in
theorem implVal (x : Int) (w : World) :
    Calls Try.prog 52 #[.int .i64 x] w fun e w' => e = .returned (.int .i64 (vL x)) ∧ w = w' := by
  by_cases h0 : x = 0
  · subst h0
    go_enter Try.func52, Try.ntmps52
    go_wp2
    go_ret
    exact ⟨rfl, rfl⟩
  · by_cases h1 : x = 1
    · subst h1
      go_enter Try.func52, Try.ntmps52
      go_wp2
      go_ret
      exact ⟨rfl, rfl⟩
    · have X := Lib.hid (show vL x = 2 by unfold vL; rw [if_neg h0, if_neg h1])
      have b0 : (x == 0) = false := by simp [h0]
      have b1 : (x == 1) = false := by simp [h1]
      go_enter Try.func52, Try.ntmps52
      go_wp2
      go_ret
      exact ⟨ret_l X.out.symm, rfl⟩

set_option maxHeartbeats 1000000 in
theorem implNot3 (x : Int) (w : World) (h : L3 x) :
    Calls Try.prog 87 #[.int .i64 x] w fun e w' => e = .returned (.int .i64 (nL x)) ∧ w = w' := by
  rcases h with rfl | rfl | rfl
  all_goals
    go_enter Try.func87, Try.ntmps87
    go_wp2
    go_ret
    exact ⟨rfl, rfl⟩

set_option maxHeartbeats 1000000 in
theorem implAnd3 (x y : Int) (w : World) (h : L3 x) (k : L3 y) :
    Calls Try.prog 119 #[.int .i64 x, .int .i64 y] w fun e w' => e = .returned (.int .i64 (aL x y)) ∧ w = w' := by
  rcases h with rfl | rfl | rfl <;> rcases k with rfl | rfl | rfl
  all_goals
    go_enter Try.func119, Try.ntmps119
    go_wp2
    go_ret
    exact ⟨rfl, rfl⟩

set_option maxHeartbeats 1000000 in
theorem implOr3 (x y : Int) (w : World) (h : L3 x) (k : L3 y) :
    Calls Try.prog 120 #[.int .i64 x, .int .i64 y] w fun e w' => e = .returned (.int .i64 (oL x y)) ∧ w = w' := by
  rcases h with rfl | rfl | rfl <;> rcases k with rfl | rfl | rfl
  all_goals
    go_enter Try.func120, Try.ntmps120
    go_wp2
    go_ret
    exact ⟨rfl, rfl⟩

set_option maxHeartbeats 1000000 in
theorem in01 (x : Int) (w : World) :
    Calls Try.prog 49 #[.int .i64 x, .int .i64 0, .int .i64 1] w fun e w' => e = .returned (.bool (decide (x = 0 ∨ x = 1))) ∧ w = w' := by
  by_cases h0 : x < 0
  · rw [show decide (x = 0 ∨ x = 1) = false from decide_eq_false (by omega)]
    go_enter Try.func49, Try.ntmps49
    go_wp2
    go_ret
    exact ⟨rfl, rfl⟩
  · by_cases h1 : 1 < x
    · rw [show decide (x = 0 ∨ x = 1) = false from decide_eq_false (by omega)]
      go_enter Try.func49, Try.ntmps49
      go_wp2
      go_ret
      exact ⟨congrArg (fun b => Ending.returned (.bool b)) (decide_eq_false (by omega)), rfl⟩
    · rw [show decide (x = 0 ∨ x = 1) = true from decide_eq_true (by omega)]
      have g0 : 0 ≤ x := by omega
      have g1 : x ≤ 1 := by omega
      go_enter Try.func49, Try.ntmps49
      go_wp2
      go_ret
      exact ⟨rfl, rfl⟩

set_option maxHeartbeats 1000000 in
theorem specVal (x : Int) (w : World) :
    Calls Try.prog 118 #[.int .i64 x] w fun e w' => e = .returned (.int .i64 (vL x)) ∧ w = w' := by
  by_cases h : x = 0 ∨ x = 1
  · have D := Lib.hid (show decide (x = 0 ∨ x = 1) = true from decide_eq_true h)
    have X := Lib.hid (show vL x = x from vL_self (by unfold L3; omega))
    have C := Lib.hid (in01 x w)
    rw [D.out] at C
    clear h
    go_enter Try.func118, Try.ntmps118
    go_wp2_with fail
    refine C.out.mono ?_
    rintro e w' ⟨rfl, rfl⟩
    go_wp2
    go_ret
    exact ⟨ret_l X.out.symm, rfl⟩
  · have D := Lib.hid (show decide (x = 0 ∨ x = 1) = false from decide_eq_false h)
    have X := Lib.hid (show vL x = 2 by unfold vL; rw [if_neg (by omega), if_neg (by omega)])
    have C := Lib.hid (in01 x w)
    rw [D.out] at C
    clear h
    go_enter Try.func118, Try.ntmps118
    go_wp2_with fail
    refine C.out.mono ?_
    rintro e w' ⟨rfl, rfl⟩
    go_wp2
    go_ret
    exact ⟨ret_l X.out.symm, rfl⟩

set_option maxHeartbeats 1000000 in
theorem specNotL (x : Int) (w : World) :
    Calls Try.prog 84 #[.int .i64 x] w fun e w' => e = .returned (.int .i64 (nL x)) ∧ w = w' := by
  by_cases h : x = 0 ∨ x = 1
  · rcases h with rfl | rfl
    all_goals
      go_enter Try.func84, Try.ntmps84
      go_wp2_with fail
      refine (in01 _ _).mono ?_
      rintro e w' ⟨rfl, rfl⟩
      go_wp2
      go_ret
      exact ⟨rfl, rfl⟩
  · have D := Lib.hid (show decide (x = 0 ∨ x = 1) = false from decide_eq_false h)
    have X := Lib.hid (show nL x = 2 by unfold nL; rw [if_neg (by omega), if_neg (by omega)])
    have C := Lib.hid (in01 x w)
    rw [D.out] at C
    clear h
    go_enter Try.func84, Try.ntmps84
    go_wp2_with fail
    refine C.out.mono ?_
    rintro e w' ⟨rfl, rfl⟩
    go_wp2
    go_ret
    exact ⟨ret_l X.out.symm, rfl⟩

theorem aL_max {x y : Int} (hx : ¬ x = 0) (hy : ¬ y = 0) : ∃ u v : Int, vL x = u ∧ vL y = v ∧ 1 ≤ u ∧ u ≤ 2 ∧ 1 ≤ v ∧ v ≤ 2 ∧ aL x y = max u v := by
  refine ⟨_, _, rfl, rfl, ?_⟩
  unfold aL vL; repeat' split
  all_goals omega

set_option maxHeartbeats 1000000 in
theorem specAndL (x y : Int) (w : World) :
    Calls Try.prog 89 #[.int .i64 x, .int .i64 y] w fun e w' => e = .returned (.int .i64 (aL x y)) ∧ w = w' := by
  by_cases hx : x = 0
  · subst hx
    have X := Lib.hid (show aL 0 y = 0 by unfold aL; rw [if_pos (Or.inl rfl)])
    go_enter Try.func89, Try.ntmps89
    go_wp2
    go_ret
    exact ⟨ret_l X.out.symm, rfl⟩
  · by_cases hy : y = 0
    · subst hy
      have X := Lib.hid (show aL x 0 = 0 by unfold aL; rw [if_pos (Or.inr rfl)])
      have b0 : (x == 0) = false := by simp [hx]
      go_enter Try.func89, Try.ntmps89
      go_wp2
      go_ret
      exact ⟨ret_l X.out.symm, rfl⟩
    · obtain ⟨u, v, hu, hv, u1, u2, v1, v2, hm⟩ := aL_max hx hy
      have V := Lib.hid (hu ▸ specVal x w)
      have U := Lib.hid (hv ▸ specVal y w)
      have M := Lib.hid hm
      have b0 : (x == 0) = false := by simp [hx]
      have b1 : (y == 0) = false := by simp [hy]
      clear hu hv hm
      have u3 : u = 1 ∨ u = 2 := by omega
      have v3 : v = 1 ∨ v = 2 := by omega
      clear u1 u2 v1 v2
      rcases u3 with rfl | rfl <;> rcases v3 with rfl | rfl
      all_goals
        go_enter Try.func89, Try.ntmps89
        go_wp2_with fail
        refine V.out.mono ?_
        rintro e w' ⟨rfl, rfl⟩
        go_wp2_with fail
        refine U.out.mono ?_
        rintro e w' ⟨rfl, rfl⟩
        go_wp2
        go_ret
        exact ⟨ret_l M.out.symm, rfl⟩

set_option maxHeartbeats 1000000 in
theorem specOrL (x y : Int) (w : World) :
    Calls Try.prog 90 #[.int .i64 x, .int .i64 y] w fun e w' => e = .returned (.int .i64 (oL x y)) ∧ w = w' := by
  have V := Lib.hid (specNotL x w)
  have U := Lib.hid (specNotL y w)
  have A := Lib.hid (specAndL (nL x) (nL y) w)
  have C := Lib.hid (specNotL (aL (nL x) (nL y)) w)
  rw [oL_morgan] at C
  obtain ⟨v, hv⟩ : ∃ v, nL x = v := ⟨_, rfl⟩
  obtain ⟨u, hu⟩ : ∃ u, nL y = u := ⟨_, rfl⟩
  rw [hv, hu] at C A
  rw [hv] at V
  rw [hu] at U
  obtain ⟨z, hz⟩ : ∃ z, aL v u = z := ⟨_, rfl⟩
  rw [hz] at A C
  clear hv hu hz
  go_enter Try.func90, Try.ntmps90
  go_wp2_with fail
  refine V.out.mono ?_
  rintro e w' ⟨rfl, rfl⟩
  go_wp2_with fail
  refine U.out.mono ?_
  rintro e w' ⟨rfl, rfl⟩
  go_wp2_with fail
  refine A.out.mono ?_
  rintro e w' ⟨rfl, rfl⟩
  go_wp2_with fail
  refine C.out.mono ?_
  rintro e w' ⟨rfl, rfl⟩
  go_wp2
  go_ret
  exact ⟨rfl, rfl⟩

end Go.Proofs.Yteigfhenbmhepaa
