/- FormatNumber: the program's and the reference's. -/
import Derived.Test.YtjpdnabfpiengaaDoorNumMake
import Derived.Test.YtjpdnabfpiengaaDoorFmtSpec
import Derived.Test.YtjpdnabfpiengaaDoorFmtImpl
import Derived.Test.YtjpdnabfpiengaaDoorLaid
import Derived.WalkKit
import Derived.WalkSpells
import Derived.WalkLawsBesides
import Derived.IntWalk
import Derived.Lib.Hide
import Derived.RegionTactic
import Derived.Deep.RegionHeld3
namespace Go.Proofs.YtjpdnabfpiengaaDoor
set_option maxRecDepth 100000
open Go.RowKit
set_option linter.unusedVariables false

/-- The text of an item. -/
def txI (x : It) : ByteArray := if x.n = 0 ∧ x.d = 0 ∧ x.t.size = 0 then ⟨#[78, 65]⟩ else if isN x then (if x.d = 1 then ⟨(Lib.itoa x.n).toArray⟩ else ⟨(Lib.itoa x.n).toArray⟩ ++ ⟨#[47]⟩ ++ ⟨(Lib.itoa x.d).toArray⟩) else ⟨#[]⟩
theorem tx_no {n d : Int} (h : n = 0) (k : d = 0) : txI ⟨n, d, ⟨#[]⟩⟩ = ⟨#[78, 65]⟩ := by unfold txI; rw [if_pos ⟨h, k, rfl⟩]
theorem tx_bad {x : It} (h : isN x = false) (k : ¬ (x.n = 0 ∧ x.d = 0 ∧ x.t.size = 0)) : txI x = ⟨#[]⟩ := by unfold txI; rw [if_neg k, h]; rfl
theorem tx_one {x : It} (h : isN x = true) (k : x.d = 1) : txI x = ⟨(Lib.itoa x.n).toArray⟩ := by
  have := isN_iff.1 h
  unfold txI; rw [if_neg (by omega), if_pos h, if_pos k]
theorem tx_two {x : It} (h : isN x = true) (k : x.d ≠ 1) : txI x = ⟨(Lib.itoa x.n).toArray⟩ ++ ⟨#[47]⟩ ++ ⟨(Lib.itoa x.d).toArray⟩ := by
  have := isN_iff.1 h
  unfold txI; rw [if_neg (by omega), if_pos h, if_neg k]
theorem itoa_small (n : Int) (h0 : -9223372036854775808 ≤ n) (h1 : n ≤ 9223372036854775807) : (⟨(Lib.itoa n).toArray⟩ : ByteArray).size ≤ 21 := by
  have := Lib.itoa_length_le n (by omega) (by omega)
  exact this
theorem tab_step {W W' w1 : World} (h : Lib.TabIs Tryd.prog W "internal/strconv.uint64pow10" .u64 Lib.pow10Tab) (s : Step W W') (hb : Below W'.heap.size W' w1) : Lib.TabIs Tryd.prog w1 "internal/strconv.uint64pow10" .u64 Lib.pow10Tab :=
  tab_below (tab_below h s.below) hb
theorem ret_tx {a b : ByteArray} (h : a = b) : Ending.returned (.string a) = .returned (.string b) := by rw [h]
theorem empty_of {t : ByteArray} (h : ¬ t.size = 0) : t.toList.isEmpty = false := by
  cases k : t.toList with
  | nil => rw [ByteArray.toList_eq] at k; exact absurd (show t.data.toList.length = 0 by rw [k]; rfl) h
  | cons _ _ => rfl

set_option maxHeartbeats 4000000 in
theorem implTxI (n d : Int) (t : ByteArray) (w : World) (ht : t.size ≤ 9223372036854775807) (tab : Lib.TabIs Tryd.prog w "internal/strconv.uint64pow10" .u64 Lib.pow10Tab) :
    Calls Tryd.prog 100 #[.agg #[.int .i64 n, .int .i64 d, .string t]] w fun e w' => e = .returned (.string (txI ⟨n, d, t⟩)) ∧ Below w.heap.size w w' := by
  have TB := Lib.hid tab
  clear tab
  cases h : isN ⟨n, d, t⟩
  · have N := Lib.hid h
    by_cases t0 : t.size = 0
    · obtain rfl := empty_of_size t0
      clear t0
      by_cases n0 : n = 0
      · by_cases d0 : d = 0
        · subst n0 d0
          have X := Lib.hid (tx_no (n := 0) (d := 0) rfl rfl)
          clear h
          go_enter Tryd.func100, Tryd.ntmps100
          go_wp2
          go_ret
          exact ⟨ret_tx X.out.symm, below1 w _⟩
        · have X := Lib.hid (tx_bad h (by simp only; omega))
          subst n0
          clear h
          go_enter Tryd.func100, Tryd.ntmps100
          go_wp2_with fail
          refine (implNumNo 0 d ⟨#[]⟩ _ ht N.out).mono ?_
          rintro e w1 ⟨rfl, hb⟩
          obtain ⟨hc, hf⟩ := bcell hb
          have B1 := Lib.hid (below_then (below1 w _) hb)
          clear hb
          go_wp2
          go_ret
          exact ⟨ret_tx X.out.symm, B1.out⟩
      · have X := Lib.hid (tx_bad h (by simp only; omega))
        clear h
        go_enter Tryd.func100, Tryd.ntmps100
        go_wp2_with fail
        refine (implNumNo n d ⟨#[]⟩ _ ht N.out).mono ?_
        rintro e w1 ⟨rfl, hb⟩
        obtain ⟨hc, hf⟩ := bcell hb
        have B1 := Lib.hid (below_then (below1 w _) hb)
        clear hb
        go_wp2
        go_ret
        exact ⟨ret_tx X.out.symm, B1.out⟩
    · have X := Lib.hid (tx_bad h (by simp only; omega))
      have e1 := empty_of t0
      clear h t0
      by_cases n0 : n = 0
      · by_cases d0 : d = 0
        · subst n0 d0
          go_enter Tryd.func100, Tryd.ntmps100
          go_wp2_with fail
          refine (implNumNo 0 0 t _ ht N.out).mono ?_
          rintro e w1 ⟨rfl, hb⟩
          obtain ⟨hc, hf⟩ := bcell hb
          have B1 := Lib.hid (below_then (below1 w _) hb)
          clear hb
          go_wp2
          go_ret
          exact ⟨ret_tx X.out.symm, B1.out⟩
        · subst n0
          go_enter Tryd.func100, Tryd.ntmps100
          go_wp2_with fail
          refine (implNumNo 0 d t _ ht N.out).mono ?_
          rintro e w1 ⟨rfl, hb⟩
          obtain ⟨hc, hf⟩ := bcell hb
          have B1 := Lib.hid (below_then (below1 w _) hb)
          clear hb
          go_wp2
          go_ret
          exact ⟨ret_tx X.out.symm, B1.out⟩
      · go_enter Tryd.func100, Tryd.ntmps100
        go_wp2_with fail
        refine (implNumNo n d t _ ht N.out).mono ?_
        rintro e w1 ⟨rfl, hb⟩
        obtain ⟨hc, hf⟩ := bcell hb
        have B1 := Lib.hid (below_then (below1 w _) hb)
        clear hb
        go_wp2
        go_ret
        exact ⟨ret_tx X.out.symm, B1.out⟩
  · have N := Lib.hid h
    obtain ⟨q0, q1, q2, q3, q4, _⟩ := isN_iff.1 h
    dsimp only at q0 q1 q2 q3 q4
    subst q0
    by_cases d1 : d = 1
    · have X := Lib.hid (tx_one h d1)
      subst d1
      clear h
      go_enter Tryd.func100, Tryd.ntmps100
      go_wp2_with fail
      refine (implNumYes n 1 ⟨#[]⟩ _ ht N.out).mono ?_
      rintro e w1 ⟨rfl, hb⟩
      obtain ⟨hc, hf⟩ := bcell hb
      have B1 := Lib.hid (below_then (below1 w _) hb)
      clear hb
      go_wp2_with fail
      refine (implFmt n _ (by omega) (by omega) (tab_below TB.out B1.out)).mono ?_
      rintro e w2 ⟨rfl, hb⟩
      have B2 := Lib.hid (below_then B1.out hb)
      clear hb
      go_wp2
      go_ret
      exact ⟨ret_tx X.out.symm, B2.out⟩
    · have X := Lib.hid (tx_two h d1)
      clear h
      have L1 := itoa_small n (by omega) (by omega)
      have L2 := itoa_small d (by omega) (by omega)
      obtain ⟨A, hA⟩ : ∃ A : ByteArray, ⟨(Lib.itoa n).toArray⟩ = A := ⟨_, rfl⟩
      obtain ⟨D, hD⟩ : ∃ D : ByteArray, ⟨(Lib.itoa d).toArray⟩ = D := ⟨_, rfl⟩
      have CA : Hid (∀ W, Lib.TabIs Tryd.prog W "internal/strconv.uint64pow10" .u64 Lib.pow10Tab → Calls Tryd.prog 83 #[.int .i64 n] W fun e w' => e = .returned (.string A) ∧ Below W.heap.size W w') := by
        refine Lib.hid ?_
        intro W tw
        rw [← hA]
        exact implFmt n W (by omega) (by omega) tw
      have CD : Hid (∀ W, Lib.TabIs Tryd.prog W "internal/strconv.uint64pow10" .u64 Lib.pow10Tab → Calls Tryd.prog 83 #[.int .i64 d] W fun e w' => e = .returned (.string D) ∧ Below W.heap.size W w') := by
        refine Lib.hid ?_
        intro W tw
        rw [← hD]
        exact implFmt d W (by omega) (by omega) tw
      rw [hA] at L1
      rw [hD] at L2
      have K1 : ¬ 9223372036854775807 < A.size + 1 := by omega
      have K2 : ¬ 9223372036854775806 < A.size := by omega
      have K3 : ¬ 9223372036854775807 < A.size + 1 + D.size := by omega
      have K4 : A.size + 1 ≤ 9223372036854775807 := by omega
      have K5 : A.size ≤ 9223372036854775806 := by omega
      have K6 : A.size + 1 + D.size ≤ 9223372036854775807 := by omega
      simp only [hA, hD] at X
      clear hA hD
      go_enter Tryd.func100, Tryd.ntmps100
      go_wp2_with fail
      refine (implNumYes n d ⟨#[]⟩ _ ht N.out).mono ?_
      rintro e w1 ⟨rfl, hb⟩
      obtain ⟨hc, hf⟩ := bcell hb
      have B1 := Lib.hid (below_then (below1 w _) hb)
      have GX := Lib.hid (blk_below (g := w.heap.size) hb (blk_new _ _ rfl))
      have BS := Lib.hid (Below.refl w1.heap.size w1)
      have TS := Lib.hid (tab_below TB.out B1.out)
      clear hb
      go_wp2_with fail
      clear hc hf
      go_region_held3 (fun w' => w'.cell? ⟨w.heap.size, 0, none⟩ = some (.int .i64 n) ∧ w'.cell? ⟨w.heap.size, 1, none⟩ = some (.int .i64 d) ∧ w'.cell? ⟨w.heap.size, 2, none⟩ = some (.string ⟨#[]⟩)) (first | with_reducible exact (three (blk_drew GX.out)).1 | with_reducible exact (three GX.out).1) (first | (go_at_call_of 83 (Value.int IntKind.i64 n); refine (CA.out _ (tab_below TS.out (Step.below (by first | with_reducible exact .same | with_reducible exact .drew)))).mono ?_; rintro e w2 ⟨rfl, hb⟩; have GX := Lib.hid (blk_step hb (by first | with_reducible exact .same | with_reducible exact .drew) GX.out); have TS := Lib.hid (tab_step TS.out (by first | with_reducible exact .same | with_reducible exact .drew) hb); have BS := Lib.hid (below_step BS.out (by first | with_reducible exact .same | with_reducible exact .drew) hb BS.out.size); have hs := BS.out.size; clear hb) | (go_at_call_of 83 (Value.int IntKind.i64 d); refine (CD.out _ (tab_below TS.out (Step.below (by first | with_reducible exact .same | with_reducible exact .drew)))).mono ?_; rintro e w3 ⟨rfl, hb⟩; have GX := Lib.hid (blk_step hb (by first | with_reducible exact .same | with_reducible exact .drew) GX.out); have TS := Lib.hid (tab_step TS.out (by first | with_reducible exact .same | with_reducible exact .drew) hb); have BS := Lib.hid (below_step BS.out (by first | with_reducible exact .same | with_reducible exact .drew) hb BS.out.size); have hs := BS.out.size; clear hb))
      all_goals
        go_wp2
        go_ret
        first | exact ⟨ret_tx X.out.symm, below_then B1.out BS.out⟩ | exact ⟨ret_tx X.out.symm, below_drew' B1.out⟩

set_option maxHeartbeats 4000000 in
theorem specTxI (n d : Int) (t : ByteArray) (w : World) (ht : t.size ≤ 9223372036854775807) :
    Calls Tryd.prog 72 #[.agg #[.int .i64 n, .int .i64 d, .string t]] w fun e w' => e = .returned (.string (txI ⟨n, d, t⟩)) ∧ Below w.heap.size w w' := by
  cases h : isN ⟨n, d, t⟩
  · have N := Lib.hid h
    by_cases t0 : t.size = 0
    · obtain rfl := empty_of_size t0
      clear t0
      by_cases n0 : n = 0
      · by_cases d0 : d = 0
        · subst n0 d0
          have X := Lib.hid (tx_no (n := 0) (d := 0) rfl rfl)
          clear h
          go_enter Tryd.func72, Tryd.ntmps72
          go_wp2
          go_ret
          exact ⟨ret_tx X.out.symm, below1 w _⟩
        · have X := Lib.hid (tx_bad h (by simp only; omega))
          subst n0
          clear h
          go_enter Tryd.func72, Tryd.ntmps72
          go_wp2_with fail
          refine (specNumNo 0 d ⟨#[]⟩ _ ht N.out).mono ?_
          rintro e w1 ⟨rfl, hb⟩
          obtain ⟨hc, hf⟩ := bcell hb
          have B1 := Lib.hid (below_then (below1 w _) hb)
          clear hb
          go_wp2
          go_ret
          exact ⟨ret_tx X.out.symm, B1.out⟩
      · have X := Lib.hid (tx_bad h (by simp only; omega))
        clear h
        go_enter Tryd.func72, Tryd.ntmps72
        go_wp2_with fail
        refine (specNumNo n d ⟨#[]⟩ _ ht N.out).mono ?_
        rintro e w1 ⟨rfl, hb⟩
        obtain ⟨hc, hf⟩ := bcell hb
        have B1 := Lib.hid (below_then (below1 w _) hb)
        clear hb
        go_wp2
        go_ret
        exact ⟨ret_tx X.out.symm, B1.out⟩
    · have X := Lib.hid (tx_bad h (by simp only; omega))
      have e1 := empty_of t0
      clear h t0
      by_cases n0 : n = 0
      · by_cases d0 : d = 0
        · subst n0 d0
          go_enter Tryd.func72, Tryd.ntmps72
          go_wp2_with fail
          refine (specNumNo 0 0 t _ ht N.out).mono ?_
          rintro e w1 ⟨rfl, hb⟩
          obtain ⟨hc, hf⟩ := bcell hb
          have B1 := Lib.hid (below_then (below1 w _) hb)
          clear hb
          go_wp2
          go_ret
          exact ⟨ret_tx X.out.symm, B1.out⟩
        · subst n0
          go_enter Tryd.func72, Tryd.ntmps72
          go_wp2_with fail
          refine (specNumNo 0 d t _ ht N.out).mono ?_
          rintro e w1 ⟨rfl, hb⟩
          obtain ⟨hc, hf⟩ := bcell hb
          have B1 := Lib.hid (below_then (below1 w _) hb)
          clear hb
          go_wp2
          go_ret
          exact ⟨ret_tx X.out.symm, B1.out⟩
      · go_enter Tryd.func72, Tryd.ntmps72
        go_wp2_with fail
        refine (specNumNo n d t _ ht N.out).mono ?_
        rintro e w1 ⟨rfl, hb⟩
        obtain ⟨hc, hf⟩ := bcell hb
        have B1 := Lib.hid (below_then (below1 w _) hb)
        clear hb
        go_wp2
        go_ret
        exact ⟨ret_tx X.out.symm, B1.out⟩
  · have N := Lib.hid h
    obtain ⟨q0, q1, q2, q3, q4, _⟩ := isN_iff.1 h
    dsimp only at q0 q1 q2 q3 q4
    subst q0
    by_cases d1 : d = 1
    · have X := Lib.hid (tx_one h d1)
      subst d1
      clear h
      go_enter Tryd.func72, Tryd.ntmps72
      go_wp2_with fail
      refine (specNumYes n 1 ⟨#[]⟩ _ ht N.out).mono ?_
      rintro e w1 ⟨rfl, hb⟩
      obtain ⟨hc, hf⟩ := bcell hb
      have B1 := Lib.hid (below_then (below1 w _) hb)
      clear hb
      go_wp2_with fail
      refine (specFmt n _ (by omega) (by omega)).mono ?_
      rintro e w2 ⟨rfl, rfl⟩
      go_wp2
      go_ret
      exact ⟨ret_tx X.out.symm, B1.out⟩
    · have X := Lib.hid (tx_two h d1)
      clear h
      have L1 := itoa_small n (by omega) (by omega)
      have L2 := itoa_small d (by omega) (by omega)
      obtain ⟨A, hA⟩ : ∃ A : ByteArray, ⟨(Lib.itoa n).toArray⟩ = A := ⟨_, rfl⟩
      obtain ⟨D, hD⟩ : ∃ D : ByteArray, ⟨(Lib.itoa d).toArray⟩ = D := ⟨_, rfl⟩
      have CA : Hid (∀ W, Calls Tryd.prog 82 #[.int .i64 n] W fun e w' => e = .returned (.string A) ∧ W = w') := by
        refine Lib.hid ?_
        intro W 
        rw [← hA]
        exact specFmt n W (by omega) (by omega) 
      have CD : Hid (∀ W, Calls Tryd.prog 82 #[.int .i64 d] W fun e w' => e = .returned (.string D) ∧ W = w') := by
        refine Lib.hid ?_
        intro W 
        rw [← hD]
        exact specFmt d W (by omega) (by omega) 
      rw [hA] at L1
      rw [hD] at L2
      have K1 : ¬ 9223372036854775807 < A.size + 1 := by omega
      have K2 : ¬ 9223372036854775806 < A.size := by omega
      have K3 : ¬ 9223372036854775807 < A.size + 1 + D.size := by omega
      have K4 : A.size + 1 ≤ 9223372036854775807 := by omega
      have K5 : A.size ≤ 9223372036854775806 := by omega
      have K6 : A.size + 1 + D.size ≤ 9223372036854775807 := by omega
      simp only [hA, hD] at X
      clear hA hD
      go_enter Tryd.func72, Tryd.ntmps72
      go_wp2_with fail
      refine (specNumYes n d ⟨#[]⟩ _ ht N.out).mono ?_
      rintro e w1 ⟨rfl, hb⟩
      obtain ⟨hc, hf⟩ := bcell hb
      have B1 := Lib.hid (below_then (below1 w _) hb)
      have GX := Lib.hid (blk_below (g := w.heap.size) hb (blk_new _ _ rfl))
      have BS := Lib.hid (Below.refl w1.heap.size w1)
      clear hb
      go_wp2_with fail
      clear hc hf
      go_region_held3 (fun w' => w'.cell? ⟨w.heap.size, 0, none⟩ = some (.int .i64 n) ∧ w'.cell? ⟨w.heap.size, 1, none⟩ = some (.int .i64 d) ∧ w'.cell? ⟨w.heap.size, 2, none⟩ = some (.string ⟨#[]⟩)) (first | with_reducible exact (three (blk_drew GX.out)).1 | with_reducible exact (three GX.out).1) (first | (go_at_call_of 82 (Value.int IntKind.i64 n); refine (CA.out _).mono ?_; rintro e w2 ⟨rfl, rfl⟩) | (go_at_call_of 82 (Value.int IntKind.i64 d); refine (CD.out _).mono ?_; rintro e w3 ⟨rfl, rfl⟩))
      all_goals
        go_wp2
        go_ret
        first | exact ⟨ret_tx X.out.symm, below_then B1.out BS.out⟩ | exact ⟨ret_tx X.out.symm, below_drew' B1.out⟩
end Go.Proofs.YtjpdnabfpiengaaDoor
