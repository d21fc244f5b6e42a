/- The program's arithmetic: differences, floors, quotients and remainders (their regions draw their order). -/
import Derived.Test.YtmglolpiekbnpaaNumImpl2
import Derived.RegionTactic
namespace Go.Proofs.Ytmglolpiekbnpaa
open Go.RowKit
set_option linter.unusedVariables false

set_option maxHeartbeats 2000000 in
theorem implFloorF (n d : Int) (w : World) (n0 : -3000000000000000000 ≤ n) (n1 : n ≤ 3000000000000000000) (d0 : -1000000000000000000 ≤ d) (d1 : d ≤ 1000000000000000000) (hd : d ≠ 0) :
    Calls Try.prog 44 #[.agg #[.int .i64 n, .int .i64 d]] w fun e w' => e = .returned (.agg #[.int .i64 (mkI (n.fdiv d) 1).n, .int .i64 (mkI (n.fdiv d) 1).d, .string ⟨#[]⟩]) ∧ Below w.heap.size w w' := by
  have C := Lib.hid (fun W => implExcess n d W (by omega) (by omega) (by omega) (by omega) hd)
  have f := fmod_in (n := n) (A := 1000000000000000000) d0 d1 hd
  have q := fdiv_in (n := n) (d := d) (A := 3000000000000000000) hd n0 n1
  have Q := Lib.hid (fdiv_code (n := n) hd)
  have D := Lib.hid hd
  have hd' : (d == 0) = false := by simp [hd]
  obtain ⟨r, hr⟩ : ∃ r, n.fmod d = r := ⟨_, rfl⟩
  rw [hr] at C f Q
  obtain ⟨k, hk⟩ : ∃ k, n.fdiv d = k := ⟨_, rfl⟩
  rw [hk] at q Q ⊢
  have f0 := f.1
  have f1 := f.2
  have q0 : -9223372036854775808 ≤ (n - r).tdiv d := by have := Q.out; omega
  have q1 : (n - r).tdiv d ≤ 9223372036854775807 := by have := Q.out; omega
  have M := Lib.hid (fun W => implMake k 1 W (by omega) (by omega))
  have M' : Hid (∀ W, Calls Try.prog 65 #[.int .i64 ((n - r).tdiv d), .int .i64 1] W fun e w' => e = .returned (.agg #[.int .i64 (mkI k 1).n, .int .i64 (mkI k 1).d, .string ⟨#[]⟩]) ∧ Below W.heap.size W w') := by
    refine Lib.hid ?_
    rw [Q.out]; exact M.out
  clear hd hr hk f q M
  go_enter Try.func44, Try.ntmps44
  go_wp2
  go_region_with (first
    | (go_at_call 45; refine (C.out _).mono ?_; rintro e w1 ⟨rfl, hb⟩; obtain ⟨hc, hf⟩ := bcell hb; have hz : w.heap.size + 1 < w1.heap.size := (by have := hb.size; simp at this; omega); have B1 := Lib.hid (below_then (below_drew' (below2 w _ _)) hb); have G := Lib.hid (blk_below (g := w.heap.size + 1) hb (blk_drew (blk_new _ _ (by simp)))); clear hb)
    | (go_at_call 65; refine (M'.out _).mono ?_; rintro e w2 ⟨rfl, hb⟩; obtain ⟨hc2, hf2⟩ := bcell hb; have B2 := Lib.hid (below_then B1.out hb); have G2 := Lib.hid (blk_below hb G.out); clear hb))
  all_goals
    go_wp2
    exact item_ret rfl rfl rfl G2.out ⟨rfl, below_three B2.out (by omega) _ _ _⟩
end Go.Proofs.Ytmglolpiekbnpaa
