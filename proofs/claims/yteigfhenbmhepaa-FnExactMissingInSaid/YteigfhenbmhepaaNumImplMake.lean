/- How the program makes a number. -/
import Derived.Test.YteigfhenbmhepaaNumMake
import Derived.RegionTactic
namespace Go.Proofs.Yteigfhenbmhepaa
set_option maxRecDepth 100000
open Go.RowKit
set_option linter.unusedVariables false

set_option maxHeartbeats 1000000 in
theorem implMake (n d : Int) (w : World) (h : -9223372036854775808 ≤ n ∧ n ≤ 9223372036854775807) (h' : -9223372036854775808 ≤ d ∧ d ≤ 9223372036854775807) :
    Calls Try.prog 59 #[.int .i64 n, .int .i64 d] w fun e w' => e = .returned (.agg #[.int .i64 (mkI n d).n, .int .i64 (mkI n d).d, .string ⟨#[]⟩]) ∧ Below w.heap.size w w' := by
  by_cases hd : d = 0
  · subst hd
    have X := Lib.hid (mkI_no (n := n) (d := 0) (by unfold okR; simp))
    go_enter Try.func59, Try.ntmps59
    go_wp2
    rw [X.out]
    exact bodyPost_ret (v := .agg #[.int .i64 0, .int .i64 0, .string ⟨#[]⟩]) (by simp [results, Try.results59, go_sem]) rfl ⟨rfl, (Below.refl _ _).alloc (Nat.le_refl _) _⟩
  · by_cases hn : n < -4000000000000000000 ∨ 4000000000000000000 < n
    · have X := Lib.hid (mkI_no (n := n) (d := d) (by unfold okR; omega))
      have H := Lib.hid hn
      have D := Lib.hid hd
      have d0 : (d == 0) = false := by simp [hd]
      clear hn hd
      go_enter Try.func59, Try.ntmps59
      go_wp2_with fail
      refine (isOpNo n _ H.out).mono ?_
      rintro e w' ⟨rfl, rfl⟩
      go_wp2
      rw [X.out]
      exact bodyPost_ret (v := .agg #[.int .i64 0, .int .i64 0, .string ⟨#[]⟩]) (by simp [results, Try.results59, go_sem]) rfl ⟨rfl, (Below.refl _ _).alloc (Nat.le_refl _) _⟩
    · by_cases hd2 : d < -4000000000000000000 ∨ 4000000000000000000 < d
      · have X := Lib.hid (mkI_no (n := n) (d := d) (by unfold okR; omega))
        have H := Lib.hid hd2
        have N := Lib.hid hn
        have d0 : (d == 0) = false := by simp [hd]
        clear hn hd hd2
        go_enter Try.func59, Try.ntmps59
        go_wp2_with fail
        refine (isOpYes n _ (by have := N.out; omega) (by have := N.out; omega)).mono ?_
        rintro e w' ⟨rfl, rfl⟩
        go_wp2_with fail
        refine (isOpNo d _ H.out).mono ?_
        rintro e w' ⟨rfl, rfl⟩
        go_wp2
        rw [X.out]
        exact bodyPost_ret (v := .agg #[.int .i64 0, .int .i64 0, .string ⟨#[]⟩]) (by simp [results, Try.results59, go_sem]) rfl ⟨rfl, (Below.refl _ _).alloc (Nat.le_refl _) _⟩
      · have a1 : -4000000000000000000 ≤ n := by omega
        have a2 : n ≤ 4000000000000000000 := by omega
        have b1 : -4000000000000000000 ≤ d := by omega
        have b2 : d ≤ 4000000000000000000 := by omega
        have d0 : (d == 0) = false := by simp [hd]
        obtain ⟨g, p, q, hg, g0, g1, hp, hq, ⟨k1, k2⟩, ⟨k3, k4⟩, hyes, hno, hq1, _⟩ := make_facts (n := n) (d := d) (by unfold okR; omega)
        have Y := Lib.hid hyes
        have Z := Lib.hid hno
        have C := Lib.hid (hg ▸ implGcd n d)
        have D := Lib.hid hd
        clear hn hd hd2 hg hyes hno h h'
        by_cases hs : d < 0
        · rw [if_pos hs, Int.tdiv_neg] at hp hq
          have P := Lib.hid hp
          have Q := Lib.hid hq
          clear hp hq
          go_enter Try.func59, Try.ntmps59
          go_wp2_with fail
          refine (isOpYes n _ a1 a2).mono ?_
          rintro e w' ⟨rfl, rfl⟩
          go_wp2_with fail
          refine (isOpYes d _ b1 b2).mono ?_
          rintro e w' ⟨rfl, rfl⟩
          go_wp2_with fail
          refine (C.out _ a1 a2 b1 b2).mono ?_
          rintro e w' ⟨rfl, m, rfl⟩
          go_wp2
          go_region
          rw [P.out, Q.out]
          cases hb : isN ⟨p, q, ⟨#[]⟩⟩
          · have HB := Lib.hid hb
            have M := Lib.hid (Z.out hb)
            clear hb
            go_wp2_with fail
            refine (implNumNo p q ⟨#[]⟩ _ (by decide) HB.out).mono ?_
            rintro e w1 ⟨rfl, hb1⟩
            obtain ⟨hc, hf⟩ := bcell hb1
            have B1 := Lib.hid hb1
            have B2 := Lib.hid ((below_drewN' ((Below.refl w.heap.size w).alloc (Nat.le_refl _) _) _).alloc (by simp) _ |>.trans (hb1.mono (by simp; omega)))
            clear hb1
            go_wp2
            rw [M.out]
            exact item_ret rfl rfl rfl (blk_below B1.out (blk_old (blk_drewN (blk_new w _ rfl)))) ⟨rfl, below_three (B2.out) (Nat.le_refl _) _ _ _⟩
          · have HB := Lib.hid hb
            have M := Lib.hid (Y.out hb)
            clear hb
            go_wp2_with fail
            refine (implNumYes p q ⟨#[]⟩ _ (by decide) HB.out).mono ?_
            rintro e w1 ⟨rfl, hb1⟩
            obtain ⟨hc, hf⟩ := bcell hb1
            have B1 := Lib.hid hb1
            have B2 := Lib.hid ((below_drewN' ((Below.refl w.heap.size w).alloc (Nat.le_refl _) _) _).alloc (by simp) _ |>.trans (hb1.mono (by simp; omega)))
            clear hb1
            go_wp2
            rw [M.out]
            exact item_ret rfl rfl rfl (blk_below B1.out (blk_old (blk_drewN (blk_new w _ rfl)))) ⟨rfl, below_three (B2.out) (Nat.le_refl _) _ _ _⟩
        · rw [if_neg hs] at hp hq
          have P := Lib.hid hp
          have Q := Lib.hid hq
          clear hp hq
          go_enter Try.func59, Try.ntmps59
          go_wp2_with fail
          refine (isOpYes n _ a1 a2).mono ?_
          rintro e w' ⟨rfl, rfl⟩
          go_wp2_with fail
          refine (isOpYes d _ b1 b2).mono ?_
          rintro e w' ⟨rfl, rfl⟩
          go_wp2_with fail
          refine (C.out _ a1 a2 b1 b2).mono ?_
          rintro e w' ⟨rfl, m, rfl⟩
          go_wp2
          go_region
          rw [P.out, Q.out]
          cases hb : isN ⟨p, q, ⟨#[]⟩⟩
          · have HB := Lib.hid hb
            have M := Lib.hid (Z.out hb)
            clear hb
            go_wp2_with fail
            refine (implNumNo p q ⟨#[]⟩ _ (by decide) HB.out).mono ?_
            rintro e w1 ⟨rfl, hb1⟩
            obtain ⟨hc, hf⟩ := bcell hb1
            have B1 := Lib.hid hb1
            have B2 := Lib.hid ((below_drewN' ((Below.refl w.heap.size w).alloc (Nat.le_refl _) _) _).alloc (by simp) _ |>.trans (hb1.mono (by simp; omega)))
            clear hb1
            go_wp2
            rw [M.out]
            exact item_ret rfl rfl rfl (blk_below B1.out (blk_old (blk_drewN (blk_new w _ rfl)))) ⟨rfl, below_three (B2.out) (Nat.le_refl _) _ _ _⟩
          · have HB := Lib.hid hb
            have M := Lib.hid (Y.out hb)
            clear hb
            go_wp2_with fail
            refine (implNumYes p q ⟨#[]⟩ _ (by decide) HB.out).mono ?_
            rintro e w1 ⟨rfl, hb1⟩
            obtain ⟨hc, hf⟩ := bcell hb1
            have B1 := Lib.hid hb1
            have B2 := Lib.hid ((below_drewN' ((Below.refl w.heap.size w).alloc (Nat.le_refl _) _) _).alloc (by simp) _ |>.trans (hb1.mono (by simp; omega)))
            clear hb1
            go_wp2
            rw [M.out]
            exact item_ret rfl rfl rfl (blk_below B1.out (blk_old (blk_drewN (blk_new w _ rfl)))) ⟨rfl, below_three (B2.out) (Nat.le_refl _) _ _ _⟩
end Go.Proofs.Yteigfhenbmhepaa
