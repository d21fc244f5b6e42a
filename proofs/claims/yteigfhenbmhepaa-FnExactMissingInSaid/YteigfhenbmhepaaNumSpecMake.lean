/- How the reference makes a number. -/
import Derived.Test.YteigfhenbmhepaaNumMake
import Derived.RegionTactic
namespace Go.Proofs.Yteigfhenbmhepaa
set_option maxRecDepth 100000
open Go.RowKit
set_option linter.unusedVariables false

set_option maxHeartbeats 1000000 in
theorem specMake (n d : Int) (w : World) (h : -9223372036854775808 ≤ n ∧ n ≤ 9223372036854775807) (h' : -9223372036854775808 ≤ d ∧ d ≤ 9223372036854775807) :
    Calls Try.prog 58 #[.int .i64 n, .int .i64 d] w fun e w' => e = .returned (.agg #[.int .i64 (mkI n d).n, .int .i64 (mkI n d).d, .string ⟨#[]⟩]) ∧ Below w.heap.size w w' := by
  by_cases hd : d = 0
  · subst hd
    have X := Lib.hid (mkI_no (n := n) (d := 0) (by unfold okR; simp))
    go_enter Try.func58, Try.ntmps58
    go_wp2
    rw [X.out]
    exact bodyPost_ret (v := .agg #[.int .i64 0, .int .i64 0, .string ⟨#[]⟩]) (by simp [results, Try.results58, go_sem]) rfl ⟨rfl, (Below.refl _ _).alloc (Nat.le_refl _) _⟩
  · by_cases hn : n < -4000000000000000000 ∨ 4000000000000000000 < n
    · have X := Lib.hid (mkI_no (n := n) (d := d) (by unfold okR; omega))
      have H := Lib.hid hn
      have D := Lib.hid hd
      have d0 : (d == 0) = false := by simp [hd]
      clear hn hd
      go_enter Try.func58, Try.ntmps58
      go_wp2_with fail
      refine (inNo n (-4000000000000000000) 4000000000000000000 _ H.out).mono ?_
      rintro e w' ⟨rfl, rfl⟩
      go_wp2
      rw [X.out]
      exact bodyPost_ret (v := .agg #[.int .i64 0, .int .i64 0, .string ⟨#[]⟩]) (by simp [results, Try.results58, go_sem]) rfl ⟨rfl, (Below.refl _ _).alloc (Nat.le_refl _) _⟩
    · by_cases hd2 : d < -4000000000000000000 ∨ 4000000000000000000 < d
      · have X := Lib.hid (mkI_no (n := n) (d := d) (by unfold okR; omega))
        have H := Lib.hid hd2
        have N := Lib.hid hn
        have d0 : (d == 0) = false := by simp [hd]
        clear hn hd hd2
        go_enter Try.func58, Try.ntmps58
        go_wp2_with fail
        refine (inYes n (-4000000000000000000) 4000000000000000000 _ (by have := N.out; omega) (by have := N.out; omega)).mono ?_
        rintro e w' ⟨rfl, rfl⟩
        go_wp2_with fail
        refine (inNo d (-4000000000000000000) 4000000000000000000 _ H.out).mono ?_
        rintro e w' ⟨rfl, rfl⟩
        go_wp2
        rw [X.out]
        exact bodyPost_ret (v := .agg #[.int .i64 0, .int .i64 0, .string ⟨#[]⟩]) (by simp [results, Try.results58, go_sem]) rfl ⟨rfl, (Below.refl _ _).alloc (Nat.le_refl _) _⟩
      · have a1 : -4000000000000000000 ≤ n := by omega
        have a2 : n ≤ 4000000000000000000 := by omega
        have b1 : -4000000000000000000 ≤ d := by omega
        have b2 : d ≤ 4000000000000000000 := by omega
        have d0 : (d == 0) = false := by simp [hd]
        obtain ⟨g, p, q, hg, g0, g1, hp, hq, ⟨k1, k2⟩, ⟨k3, k4⟩, hyes, hno, hq1, hin⟩ := make_facts (n := n) (d := d) (by unfold okR; omega)
        have Y := Lib.hid hyes
        have Z := Lib.hid hno
        have C := Lib.hid (hg ▸ specGcd n d)
        have D := Lib.hid hd
        clear hn hd hd2 hg hyes hno h h'
        by_cases hs : d < 0
        · rw [if_pos hs, Int.tdiv_neg] at hp hq
          have P := Lib.hid hp
          have Q := Lib.hid hq
          clear hp hq
          go_enter Try.func58, Try.ntmps58
          go_wp2_with fail
          refine (inYes n (-4000000000000000000) 4000000000000000000 _ a1 a2).mono ?_
          rintro e w' ⟨rfl, rfl⟩
          go_wp2_with fail
          refine (inYes d (-4000000000000000000) 4000000000000000000 _ b1 b2).mono ?_
          rintro e w' ⟨rfl, rfl⟩
          go_wp2_with fail
          refine (C.out _ a1 a2 b1 b2).mono ?_
          rintro e w' ⟨rfl, rfl⟩
          go_wp2
          go_region
          rw [P.out, Q.out]
          by_cases hpp : -999999999 ≤ p ∧ p ≤ 999999999
          · by_cases hqq : q ≤ 999999999
            · have M := Lib.hid (Y.out (hin.2 ⟨hpp, hqq⟩))
              clear hin
              go_wp2_with fail
              refine (inYes p (-999999999) 999999999 _ hpp.1 hpp.2).mono ?_
              rintro e w' ⟨rfl, rfl⟩
              clear hpp
              go_wp2
              rw [M.out]
              exact item_ret0 rfl rfl rfl (blk_old (blk_drew (blk_new w _ rfl))) ⟨rfl, ((below_drew' ((Below.refl w.heap.size w).alloc (Nat.le_refl _) _)).alloc (by simp) _)⟩
            · have M := Lib.hid (Z.out (Bool.eq_false_iff.2 fun k => hqq (hin.1 k).2))
              clear hin
              go_wp2_with fail
              refine (inYes p (-999999999) 999999999 _ hpp.1 hpp.2).mono ?_
              rintro e w' ⟨rfl, rfl⟩
              clear hpp
              go_wp2
              rw [M.out]
              exact item_ret0 rfl rfl rfl (blk_old (blk_drew (blk_new w _ rfl))) ⟨rfl, ((below_drew' ((Below.refl w.heap.size w).alloc (Nat.le_refl _) _)).alloc (by simp) _)⟩
          · have M := Lib.hid (Z.out (Bool.eq_false_iff.2 fun k => hpp (hin.1 k).1))
            have H := Lib.hid (show p < -999999999 ∨ 999999999 < p by omega)
            clear hin hpp
            go_wp2_with fail
            refine (inNo p (-999999999) 999999999 _ H.out).mono ?_
            rintro e w' ⟨rfl, rfl⟩
            go_wp2
            rw [M.out]
            exact item_ret0 rfl rfl rfl (blk_old (blk_drew (blk_new w _ rfl))) ⟨rfl, ((below_drew' ((Below.refl w.heap.size w).alloc (Nat.le_refl _) _)).alloc (by simp) _)⟩
        · rw [if_neg hs] at hp hq
          have P := Lib.hid hp
          have Q := Lib.hid hq
          clear hp hq
          go_enter Try.func58, Try.ntmps58
          go_wp2_with fail
          refine (inYes n (-4000000000000000000) 4000000000000000000 _ a1 a2).mono ?_
          rintro e w' ⟨rfl, rfl⟩
          go_wp2_with fail
          refine (inYes d (-4000000000000000000) 4000000000000000000 _ b1 b2).mono ?_
          rintro e w' ⟨rfl, rfl⟩
          go_wp2_with fail
          refine (C.out _ a1 a2 b1 b2).mono ?_
          rintro e w' ⟨rfl, rfl⟩
          go_wp2
          go_region
          rw [P.out, Q.out]
          by_cases hpp : -999999999 ≤ p ∧ p ≤ 999999999
          · by_cases hqq : q ≤ 999999999
            · have M := Lib.hid (Y.out (hin.2 ⟨hpp, hqq⟩))
              clear hin
              go_wp2_with fail
              refine (inYes p (-999999999) 999999999 _ hpp.1 hpp.2).mono ?_
              rintro e w' ⟨rfl, rfl⟩
              clear hpp
              go_wp2
              rw [M.out]
              exact item_ret0 rfl rfl rfl (blk_old (blk_drew (blk_new w _ rfl))) ⟨rfl, ((below_drew' ((Below.refl w.heap.size w).alloc (Nat.le_refl _) _)).alloc (by simp) _)⟩
            · have M := Lib.hid (Z.out (Bool.eq_false_iff.2 fun k => hqq (hin.1 k).2))
              clear hin
              go_wp2_with fail
              refine (inYes p (-999999999) 999999999 _ hpp.1 hpp.2).mono ?_
              rintro e w' ⟨rfl, rfl⟩
              clear hpp
              go_wp2
              rw [M.out]
              exact item_ret0 rfl rfl rfl (blk_old (blk_drew (blk_new w _ rfl))) ⟨rfl, ((below_drew' ((Below.refl w.heap.size w).alloc (Nat.le_refl _) _)).alloc (by simp) _)⟩
          · have M := Lib.hid (Z.out (Bool.eq_false_iff.2 fun k => hpp (hin.1 k).1))
            have H := Lib.hid (show p < -999999999 ∨ 999999999 < p by omega)
            clear hin hpp
            go_wp2_with fail
            refine (inNo p (-999999999) 999999999 _ H.out).mono ?_
            rintro e w' ⟨rfl, rfl⟩
            go_wp2
            rw [M.out]
            exact item_ret0 rfl rfl rfl (blk_old (blk_drew (blk_new w _ rfl))) ⟨rfl, ((below_drew' ((Below.refl w.heap.size w).alloc (Nat.le_refl _) _)).alloc (by simp) _)⟩
end Go.Proofs.Yteigfhenbmhepaa
