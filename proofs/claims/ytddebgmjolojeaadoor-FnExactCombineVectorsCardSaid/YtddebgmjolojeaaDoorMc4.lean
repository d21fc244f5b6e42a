/- FormatNumber: the program's and the reference's. -/
import Derived.Test.YtddebgmjolojeaaDoorRows
import Derived.Test.YtddebgmjolojeaaDoorNumMake
import Derived.Test.YtddebgmjolojeaaDoorMc1
import Derived.Test.YtddebgmjolojeaaDoorMc2
import Derived.Test.YtddebgmjolojeaaDoorVecImA
import Derived.Test.YtddebgmjolojeaaDoorVecIt
import Derived.Test.YtddebgmjolojeaaDoorNumKit
import Derived.Test.YtddebgmjolojeaaDoorMc3
import Derived.WalkKit
import Derived.WalkSpells
import Derived.WalkLawsBesides
import Derived.IntWalk
import Derived.Lib.Hide
import Derived.RegionTactic
import Derived.Deep.RegionHeld3
import Derived.OwnWalk
import Derived.Deep.DeepCutAuto
import Derived.Maps.AppendAt
namespace Go.Proofs.YtddebgmjolojeaaDoor
set_option maxRecDepth 100000
open Go.RowKit
set_option linter.unusedVariables false

/-- The text of an item. -/
def txI (x : It) : ByteArray := if x.n = 0 ∧ x.d = 0 ∧ x.t.size = 0 then ⟨#[78, 65]⟩ else if isN x then (if x.d = 1 then ⟨(Lib.itoa x.n).toArray⟩ else ⟨(Lib.itoa x.n).toArray⟩ ++ ⟨#[47]⟩ ++ ⟨(Lib.itoa x.d).toArray⟩) else ⟨#[]⟩
theorem tx_no {n d : Int} (h : n = 0) (k : d = 0) : txI ⟨n, d, ⟨#[]⟩⟩ = ⟨#[78, 65]⟩ := by unfold txI; rw [if_pos ⟨h, k, rfl⟩]
theorem tx_bad {x : It} (h : isN x = false) (k : ¬ (x.n = 0 ∧ x.d = 0 ∧ x.t.size = 0)) : txI x = ⟨#[]⟩ := by unfold txI; rw [if_neg k, h]; rfl
theorem tx_one {x : It} (h : isN x = true) (k : x.d = 1) : txI x = ⟨(Lib.itoa x.n).toArray⟩ := by
  have := isN_iff.1 h
  unfold txI; rw [if_neg (by omega), if_pos h, if_pos k]
theorem tx_two {x : It} (h : isN x = true) (k : x.d ≠ 1) : txI x = ⟨(Lib.itoa x.n).toArray⟩ ++ ⟨#[47]⟩ ++ ⟨(Lib.itoa x.d).toArray⟩ := by
  have := isN_iff.1 h
  unfold txI; rw [if_neg (by omega), if_pos h, if_neg k]
theorem itoa_small (n : Int) (h0 : -9223372036854775808 ≤ n) (h1 : n ≤ 9223372036854775807) : (⟨(Lib.itoa n).toArray⟩ : ByteArray).size ≤ 21 := by
  have := Lib.itoa_length_le n (by omega) (by omega)
  exact this
theorem tab_step {W W' w1 : World} (h : Lib.TabIs Tryd.prog W "internal/strconv.uint64pow10" .u64 Lib.pow10Tab) (s : Step W W') (hb : Below W'.heap.size W' w1) : Lib.TabIs Tryd.prog w1 "internal/strconv.uint64pow10" .u64 Lib.pow10Tab :=
  tab_below (tab_below h s.below) hb
theorem ret_tx {a b : ByteArray} (h : a = b) : Ending.returned (.string a) = .returned (.string b) := by rw [h]
theorem empty_of {t : ByteArray} (h : ¬ t.size = 0) : t.toList.isEmpty = false := by
  cases k : t.toList with
  | nil => rw [ByteArray.toList_eq] at k; exact absurd (show t.data.toList.length = 0 by rw [k]; rfl) h
  | cons _ _ => rfl

set_option maxHeartbeats 4000000 in
theorem implTxI (n d : Int) (t : ByteArray) (w : World) (ht : t.size ≤ 9223372036854775807) (tab : Lib.TabIs Tryd.prog w "internal/strconv.uint64pow10" .u64 Lib.pow10Tab) :
    Calls Tryd.prog 79 #[.agg #[.int .i64 n, .int .i64 d, .string t]] w fun e w' => e = .returned (.string (txI ⟨n, d, t⟩)) ∧ Below w.heap.size w w' := by
  have TB := Lib.hid tab
  clear tab
  cases h : isN ⟨n, d, t⟩
  · have N := Lib.hid h
    by_cases t0 : t.size = 0
    · obtain rfl := empty_of_size t0
      clear t0
      by_cases n0 : n = 0
      · by_cases d0 : d = 0
        · subst n0 d0
          have X := Lib.hid (tx_no (n := 0) (d := 0) rfl rfl)
          clear h
          go_enter Tryd.func79, Tryd.ntmps79
          go_wp2
          go_ret
          exact ⟨ret_tx X.out.symm, below1 w _⟩
        · have X := Lib.hid (tx_bad h (by simp only; omega))
          subst n0
          clear h
          go_enter Tryd.func79, Tryd.ntmps79
          go_wp2_with fail
          refine (implNumNo 0 d ⟨#[]⟩ _ ht N.out).mono ?_
          rintro e w1 ⟨rfl, hb⟩
          obtain ⟨hc, hf⟩ := bcell hb
          have B1 := Lib.hid (below_then (below1 w _) hb)
          clear hb
          go_wp2
          go_ret
          exact ⟨ret_tx X.out.symm, B1.out⟩
      · have X := Lib.hid (tx_bad h (by simp only; omega))
        clear h
        go_enter Tryd.func79, Tryd.ntmps79
        go_wp2_with fail
        refine (implNumNo n d ⟨#[]⟩ _ ht N.out).mono ?_
        rintro e w1 ⟨rfl, hb⟩
        obtain ⟨hc, hf⟩ := bcell hb
        have B1 := Lib.hid (below_then (below1 w _) hb)
        clear hb
        go_wp2
        go_ret
        exact ⟨ret_tx X.out.symm, B1.out⟩
    · have X := Lib.hid (tx_bad h (by simp only; omega))
      have e1 := empty_of t0
      clear h t0
      by_cases n0 : n = 0
      · by_cases d0 : d = 0
        · subst n0 d0
          go_enter Tryd.func79, Tryd.ntmps79
          go_wp2_with fail
          refine (implNumNo 0 0 t _ ht N.out).mono ?_
          rintro e w1 ⟨rfl, hb⟩
          obtain ⟨hc, hf⟩ := bcell hb
          have B1 := Lib.hid (below_then (below1 w _) hb)
          clear hb
          go_wp2
          go_ret
          exact ⟨ret_tx X.out.symm, B1.out⟩
        · subst n0
          go_enter Tryd.func79, Tryd.ntmps79
          go_wp2_with fail
          refine (implNumNo 0 d t _ ht N.out).mono ?_
          rintro e w1 ⟨rfl, hb⟩
          obtain ⟨hc, hf⟩ := bcell hb
          have B1 := Lib.hid (below_then (below1 w _) hb)
          clear hb
          go_wp2
          go_ret
          exact ⟨ret_tx X.out.symm, B1.out⟩
      · go_enter Tryd.func79, Tryd.ntmps79
        go_wp2_with fail
        refine (implNumNo n d t _ ht N.out).mono ?_
        rintro e w1 ⟨rfl, hb⟩
        obtain ⟨hc, hf⟩ := bcell hb
        have B1 := Lib.hid (below_then (below1 w _) hb)
        clear hb
        go_wp2
        go_ret
        exact ⟨ret_tx X.out.symm, B1.out⟩
  · have N := Lib.hid h
    obtain ⟨q0, q1, q2, q3, q4, _⟩ := isN_iff.1 h
    dsimp only at q0 q1 q2 q3 q4
    subst q0
    by_cases d1 : d = 1
    · have X := Lib.hid (tx_one h d1)
      subst d1
      clear h
      go_enter Tryd.func79, Tryd.ntmps79
      go_wp2_with fail
      refine (implNumYes n 1 ⟨#[]⟩ _ ht N.out).mono ?_
      rintro e w1 ⟨rfl, hb⟩
      obtain ⟨hc, hf⟩ := bcell hb
      have B1 := Lib.hid (below_then (below1 w _) hb)
      clear hb
      go_wp2_with fail
      refine (implFmt n _ (by omega) (by omega) (tab_below TB.out B1.out)).mono ?_
      rintro e w2 ⟨rfl, hb⟩
      have B2 := Lib.hid (below_then B1.out hb)
      clear hb
      go_wp2
      go_ret
      exact ⟨ret_tx X.out.symm, B2.out⟩
    · have X := Lib.hid (tx_two h d1)
      clear h
      have L1 := itoa_small n (by omega) (by omega)
      have L2 := itoa_small d (by omega) (by omega)
      obtain ⟨A, hA⟩ : ∃ A : ByteArray, ⟨(Lib.itoa n).toArray⟩ = A := ⟨_, rfl⟩
      obtain ⟨D, hD⟩ : ∃ D : ByteArray, ⟨(Lib.itoa d).toArray⟩ = D := ⟨_, rfl⟩
      have CA : Hid (∀ W, Lib.TabIs Tryd.prog W "internal/strconv.uint64pow10" .u64 Lib.pow10Tab → Calls Tryd.prog 67 #[.int .i64 n] W fun e w' => e = .returned (.string A) ∧ Below W.heap.size W w') := by
        refine Lib.hid ?_
        intro W tw
        rw [← hA]
        exact implFmt n W (by omega) (by omega) tw
      have CD : Hid (∀ W, Lib.TabIs Tryd.prog W "internal/strconv.uint64pow10" .u64 Lib.pow10Tab → Calls Tryd.prog 67 #[.int .i64 d] W fun e w' => e = .returned (.string D) ∧ Below W.heap.size W w') := by
        refine Lib.hid ?_
        intro W tw
        rw [← hD]
        exact implFmt d W (by omega) (by omega) tw
      rw [hA] at L1
      rw [hD] at L2
      have K1 : ¬ 9223372036854775807 < A.size + 1 := by omega
      have K2 : ¬ 9223372036854775806 < A.size := by omega
      have K3 : ¬ 9223372036854775807 < A.size + 1 + D.size := by omega
      have K4 : A.size + 1 ≤ 9223372036854775807 := by omega
      have K5 : A.size ≤ 9223372036854775806 := by omega
      have K6 : A.size + 1 + D.size ≤ 9223372036854775807 := by omega
      simp only [hA, hD] at X
      clear hA hD
      go_enter Tryd.func79, Tryd.ntmps79
      go_wp2_with fail
      refine (implNumYes n d ⟨#[]⟩ _ ht N.out).mono ?_
      rintro e w1 ⟨rfl, hb⟩
      obtain ⟨hc, hf⟩ := bcell hb
      have B1 := Lib.hid (below_then (below1 w _) hb)
      have GX := Lib.hid (blk_below (g := w.heap.size) hb (blk_new _ _ rfl))
      have BS := Lib.hid (Below.refl w1.heap.size w1)
      have TS := Lib.hid (tab_below TB.out B1.out)
      clear hb
      go_wp2_with fail
      clear hc hf
      go_region_held3 (fun w' => w'.cell? ⟨w.heap.size, 0, none⟩ = some (.int .i64 n) ∧ w'.cell? ⟨w.heap.size, 1, none⟩ = some (.int .i64 d) ∧ w'.cell? ⟨w.heap.size, 2, none⟩ = some (.string ⟨#[]⟩)) (first | with_reducible exact (three (blk_drew GX.out)).1 | with_reducible exact (three GX.out).1) (first | (go_at_call_of 67 (Value.int IntKind.i64 n); refine (CA.out _ (tab_below TS.out (Step.below (by first | with_reducible exact .same | with_reducible exact .drew)))).mono ?_; rintro e w2 ⟨rfl, hb⟩; have GX := Lib.hid (blk_step hb (by first | with_reducible exact .same | with_reducible exact .drew) GX.out); have TS := Lib.hid (tab_step TS.out (by first | with_reducible exact .same | with_reducible exact .drew) hb); have BS := Lib.hid (below_step BS.out (by first | with_reducible exact .same | with_reducible exact .drew) hb BS.out.size); have hs := BS.out.size; clear hb) | (go_at_call_of 67 (Value.int IntKind.i64 d); refine (CD.out _ (tab_below TS.out (Step.below (by first | with_reducible exact .same | with_reducible exact .drew)))).mono ?_; rintro e w3 ⟨rfl, hb⟩; have GX := Lib.hid (blk_step hb (by first | with_reducible exact .same | with_reducible exact .drew) GX.out); have TS := Lib.hid (tab_step TS.out (by first | with_reducible exact .same | with_reducible exact .drew) hb); have BS := Lib.hid (below_step BS.out (by first | with_reducible exact .same | with_reducible exact .drew) hb BS.out.size); have hs := BS.out.size; clear hb))
      all_goals
        go_wp2
        go_ret
        first | exact ⟨ret_tx X.out.symm, below_then B1.out BS.out⟩ | exact ⟨ret_tx X.out.symm, below_drew' B1.out⟩

set_option maxHeartbeats 4000000 in
theorem specTxI (n d : Int) (t : ByteArray) (w : World) (ht : t.size ≤ 9223372036854775807) :
    Calls Tryd.prog 74 #[.agg #[.int .i64 n, .int .i64 d, .string t]] w fun e w' => e = .returned (.string (txI ⟨n, d, t⟩)) ∧ Below w.heap.size w w' := by
  cases h : isN ⟨n, d, t⟩
  · have N := Lib.hid h
    by_cases t0 : t.size = 0
    · obtain rfl := empty_of_size t0
      clear t0
      by_cases n0 : n = 0
      · by_cases d0 : d = 0
        · subst n0 d0
          have X := Lib.hid (tx_no (n := 0) (d := 0) rfl rfl)
          clear h
          go_enter Tryd.func74, Tryd.ntmps74
          go_wp2
          go_ret
          exact ⟨ret_tx X.out.symm, below1 w _⟩
        · have X := Lib.hid (tx_bad h (by simp only; omega))
          subst n0
          clear h
          go_enter Tryd.func74, Tryd.ntmps74
          go_wp2_with fail
          refine (specNumNo 0 d ⟨#[]⟩ _ ht N.out).mono ?_
          rintro e w1 ⟨rfl, hb⟩
          obtain ⟨hc, hf⟩ := bcell hb
          have B1 := Lib.hid (below_then (below1 w _) hb)
          clear hb
          go_wp2
          go_ret
          exact ⟨ret_tx X.out.symm, B1.out⟩
      · have X := Lib.hid (tx_bad h (by simp only; omega))
        clear h
        go_enter Tryd.func74, Tryd.ntmps74
        go_wp2_with fail
        refine (specNumNo n d ⟨#[]⟩ _ ht N.out).mono ?_
        rintro e w1 ⟨rfl, hb⟩
        obtain ⟨hc, hf⟩ := bcell hb
        have B1 := Lib.hid (below_then (below1 w _) hb)
        clear hb
        go_wp2
        go_ret
        exact ⟨ret_tx X.out.symm, B1.out⟩
    · have X := Lib.hid (tx_bad h (by simp only; omega))
      have e1 := empty_of t0
      clear h t0
      by_cases n0 : n = 0
      · by_cases d0 : d = 0
        · subst n0 d0
          go_enter Tryd.func74, Tryd.ntmps74
          go_wp2_with fail
          refine (specNumNo 0 0 t _ ht N.out).mono ?_
          rintro e w1 ⟨rfl, hb⟩
          obtain ⟨hc, hf⟩ := bcell hb
          have B1 := Lib.hid (below_then (below1 w _) hb)
          clear hb
          go_wp2
          go_ret
          exact ⟨ret_tx X.out.symm, B1.out⟩
        · subst n0
          go_enter Tryd.func74, Tryd.ntmps74
          go_wp2_with fail
          refine (specNumNo 0 d t _ ht N.out).mono ?_
          rintro e w1 ⟨rfl, hb⟩
          obtain ⟨hc, hf⟩ := bcell hb
          have B1 := Lib.hid (below_then (below1 w _) hb)
          clear hb
          go_wp2
          go_ret
          exact ⟨ret_tx X.out.symm, B1.out⟩
      · go_enter Tryd.func74, Tryd.ntmps74
        go_wp2_with fail
        refine (specNumNo n d t _ ht N.out).mono ?_
        rintro e w1 ⟨rfl, hb⟩
        obtain ⟨hc, hf⟩ := bcell hb
        have B1 := Lib.hid (below_then (below1 w _) hb)
        clear hb
        go_wp2
        go_ret
        exact ⟨ret_tx X.out.symm, B1.out⟩
  · have N := Lib.hid h
    obtain ⟨q0, q1, q2, q3, q4, _⟩ := isN_iff.1 h
    dsimp only at q0 q1 q2 q3 q4
    subst q0
    by_cases d1 : d = 1
    · have X := Lib.hid (tx_one h d1)
      subst d1
      clear h
      go_enter Tryd.func74, Tryd.ntmps74
      go_wp2_with fail
      refine (specNumYes n 1 ⟨#[]⟩ _ ht N.out).mono ?_
      rintro e w1 ⟨rfl, hb⟩
      obtain ⟨hc, hf⟩ := bcell hb
      have B1 := Lib.hid (below_then (below1 w _) hb)
      clear hb
      go_wp2_with fail
      refine (specFmt n _ (by omega) (by omega)).mono ?_
      rintro e w2 ⟨rfl, rfl⟩
      go_wp2
      go_ret
      exact ⟨ret_tx X.out.symm, B1.out⟩
    · have X := Lib.hid (tx_two h d1)
      clear h
      have L1 := itoa_small n (by omega) (by omega)
      have L2 := itoa_small d (by omega) (by omega)
      obtain ⟨A, hA⟩ : ∃ A : ByteArray, ⟨(Lib.itoa n).toArray⟩ = A := ⟨_, rfl⟩
      obtain ⟨D, hD⟩ : ∃ D : ByteArray, ⟨(Lib.itoa d).toArray⟩ = D := ⟨_, rfl⟩
      have CA : Hid (∀ W, Calls Tryd.prog 64 #[.int .i64 n] W fun e w' => e = .returned (.string A) ∧ W = w') := by
        refine Lib.hid ?_
        intro W 
        rw [← hA]
        exact specFmt n W (by omega) (by omega) 
      have CD : Hid (∀ W, Calls Tryd.prog 64 #[.int .i64 d] W fun e w' => e = .returned (.string D) ∧ W = w') := by
        refine Lib.hid ?_
        intro W 
        rw [← hD]
        exact specFmt d W (by omega) (by omega) 
      rw [hA] at L1
      rw [hD] at L2
      have K1 : ¬ 9223372036854775807 < A.size + 1 := by omega
      have K2 : ¬ 9223372036854775806 < A.size := by omega
      have K3 : ¬ 9223372036854775807 < A.size + 1 + D.size := by omega
      have K4 : A.size + 1 ≤ 9223372036854775807 := by omega
      have K5 : A.size ≤ 9223372036854775806 := by omega
      have K6 : A.size + 1 + D.size ≤ 9223372036854775807 := by omega
      simp only [hA, hD] at X
      clear hA hD
      go_enter Tryd.func74, Tryd.ntmps74
      go_wp2_with fail
      refine (specNumYes n d ⟨#[]⟩ _ ht N.out).mono ?_
      rintro e w1 ⟨rfl, hb⟩
      obtain ⟨hc, hf⟩ := bcell hb
      have B1 := Lib.hid (below_then (below1 w _) hb)
      have GX := Lib.hid (blk_below (g := w.heap.size) hb (blk_new _ _ rfl))
      have BS := Lib.hid (Below.refl w1.heap.size w1)
      clear hb
      go_wp2_with fail
      clear hc hf
      go_region_held3 (fun w' => w'.cell? ⟨w.heap.size, 0, none⟩ = some (.int .i64 n) ∧ w'.cell? ⟨w.heap.size, 1, none⟩ = some (.int .i64 d) ∧ w'.cell? ⟨w.heap.size, 2, none⟩ = some (.string ⟨#[]⟩)) (first | with_reducible exact (three (blk_drew GX.out)).1 | with_reducible exact (three GX.out).1) (first | (go_at_call_of 64 (Value.int IntKind.i64 n); refine (CA.out _).mono ?_; rintro e w2 ⟨rfl, rfl⟩) | (go_at_call_of 64 (Value.int IntKind.i64 d); refine (CD.out _).mono ?_; rintro e w3 ⟨rfl, rfl⟩))
      all_goals
        go_wp2
        go_ret
        first | exact ⟨ret_tx X.out.symm, below_then B1.out BS.out⟩ | exact ⟨ret_tx X.out.symm, below_drew' B1.out⟩
end Go.Proofs.YtddebgmjolojeaaDoor

/- Elements converted to a later kind, and taken plain, as data. -/
namespace Go.Proofs.YtddebgmjolojeaaDoor
open Go.RowKit
set_option maxRecDepth 100000
set_option linter.unusedVariables false

/-- The two texts of logical values. -/
def falB : ByteArray := ⟨#[70, 65, 76, 83, 69]⟩
def truB : ByteArray := ⟨#[84, 82, 85, 69]⟩
/-- An element of the kind k as one of the kind j. -/
def cnvI (k j : Int) (x : It) : It := if k = j ∨ j ≠ 3 ∨ x.d = 0 then x else if k = 1 then txE (if x.n = 0 then falB else truB) else txE (txI x)
theorem cnv_same {k j : Int} {x : It} (h : k = j ∨ j ≠ 3 ∨ x.d = 0) : cnvI k j x = x := by unfold cnvI; rw [if_pos h]
theorem cnv_log {x : It} (h : x.d ≠ 0) : cnvI 1 3 x = txE (if x.n = 0 then falB else truB) := by unfold cnvI; rw [if_neg (by omega), if_pos rfl]
theorem cnv_num {x : It} (h : x.d ≠ 0) : cnvI 2 3 x = txE (txI x) := by unfold cnvI; rw [if_neg (by omega), if_neg (by decide)]
theorem txI_size {x : It} (h : isN x = true) : (txI x).size ≤ 43 := by
  have k := isN_iff.1 h
  have h1 := itoa_small x.n (by omega) (by omega)
  have h2 := itoa_small x.d (by omega) (by omega)
  by_cases hd : x.d = 1
  · rw [tx_one h hd]; omega
  · rw [tx_two h hd, ByteArray.size_append, ByteArray.size_append]
    have h3 : (⟨#[47]⟩ : ByteArray).size = 1 := rfl
    omega
theorem itOk_size {k : Int} {x : It} (h : ItOk k x) : InB x ∧ x.t.size ≤ 60 := by
  rcases h with rfl | ⟨_, h1, h2, h3, h4⟩ | ⟨_, h1⟩ | ⟨_, h1, h2, h3⟩
  · exact ⟨⟨by decide, by decide, Nat.zero_le _⟩, Nat.zero_le _⟩
  · exact ⟨⟨by omega, by omega, by unfold maxLen; omega⟩, by omega⟩
  · have k := isN_iff.1 h1
    have : x.t.size = 0 := by rw [k.1]; rfl
    exact ⟨⟨by omega, by omega, by unfold maxLen; omega⟩, by omega⟩
  · exact ⟨⟨by omega, by omega, by unfold maxLen; omega⟩, by omega⟩
theorem txE_ok {s : ByteArray} (h : s.size ≤ 60) : ItOk 3 (txE s) := .inr (.inr (.inr ⟨rfl, rfl, rfl, h⟩))
theorem cnv_ok {k j : Int} {x : It} (h : ItOk k x) (hk : k ≤ j) (hj : j ≤ 3) : ItOk j (cnvI k j x) := by
  by_cases e : k = j
  · rw [cnv_same (.inl e), ← e]; exact h
  rcases h with rfl | ⟨rfl, h1, h2, h3, h4⟩ | ⟨rfl, h1⟩ | ⟨rfl, h1, h2, h3⟩
  · rw [cnv_same (.inr (.inr rfl))]; exact .inl rfl
  · by_cases e3 : j = 3
    · subst e3
      rw [cnv_log (by omega)]
      refine txE_ok ?_
      split <;> decide
    · rw [cnv_same (.inr (.inl e3))]
      refine .inr (.inr (.inl ⟨by omega, isN_iff.2 ⟨empty_of_size h4, by omega, by omega, by omega, by omega, ?_⟩⟩))
      rw [h1]; simp
  · have e3 : j = 3 := by omega
    subst e3
    have k := isN_iff.1 h1
    rw [cnv_num (by omega)]
    have := txI_size h1
    exact txE_ok (by omega)
  · omega
/-- An element taken plain: a factor's is its level. -/
def plnI (levels : List ByteArray) (x : It) : It := if x.d = 0 ∨ levels.length = 0 then x else txE (levels.getD (x.n - 1).toNat ⟨#[]⟩)
def plnK (k : Int) (levels : List ByteArray) : Int := if levels.length = 0 then k else 3
/-- The number of bytes of a text. -/
def bytI (x : It) : It := if x.d = 0 then x else ⟨(x.t.size : Int), 1, ⟨#[]⟩⟩
/-- The elements of a vector, plain. -/
def plnL (levels : List ByteArray) (items : List It) : List It := itF (fun i => plnI levels (items.getD i noI)) items.length
def cnvL (k j : Int) (l : List It) : List It := itF (fun i => cnvI k j (l.getD i noI)) l.length
theorem cnvL_len (k j : Int) (l : List It) : (cnvL k j l).length = l.length := itF_len _ _
theorem cnvL_at {k j : Int} {l : List It} {i : Nat} (h : i < l.length) : (cnvL k j l).getD i noI = cnvI k j (l.getD i noI) := itF_getD _ h
/-- What a vector that is atomic or NULL is known to have. -/
structure AtmOk (kk : Int) (items : List It) (levels : List ByteArray) : Prop where
  kind : 0 ≤ kk ∧ kk ≤ 3
  len : items.length ≤ 40
  llen : levels.length ≤ 20
  labs : LabelsOk (txtS levels) levels.length 20
  its : ∀ i, i < items.length → ItOk kk (items.getD i noI) ∧ LevOk levels.length (items.getD i noI)
  null : kk = 0 → items.length = 0
  two : kk ≠ 2 → levels.length = 0
theorem AtmOk.pk {kk : Int} {items : List It} {levels : List ByteArray} (h : AtmOk kk items levels) : 0 ≤ plnK kk levels ∧ plnK kk levels ≤ 3 ∧ kk ≤ plnK kk levels := by
  have := h.kind
  unfold plnK; split <;> omega
end Go.Proofs.YtddebgmjolojeaaDoor

/- Elements converted to a later kind and taken plain: both sides. -/
namespace Go.Proofs.YtddebgmjolojeaaDoor
open Go.RowKit
set_option maxRecDepth 100000
set_option linter.unusedVariables false

theorem implFmtLog (n d : Int) (t : ByteArray) (w : World) :
    Calls Tryd.prog 78 #[.agg #[.int .i64 n, .int .i64 d, .string t]] w fun e w' => e = .returned (.string (if n = 0 then falB else truB)) ∧ Below w.heap.size w w' := by
  by_cases h : n = 0
  · subst h
    go_enter Tryd.func78, Tryd.ntmps78
    go_wp2
    go_ret
    exact ⟨rfl, below1 w _⟩
  · have hb : (n == 0) = false := by simp [h]
    rw [if_neg h]
    go_enter Tryd.func78, Tryd.ntmps78
    go_wp2
    go_ret
    exact ⟨rfl, below1 w _⟩
set_option maxHeartbeats 4000000 in
theorem implCnvS (k j n d : Int) (t : ByteArray) (w : World) (h0 : 0 ≤ k) (hk : k ≤ j) (hj : j ≤ 3) (hs : k = j ∨ j ≠ 3) :
    Calls Tryd.prog 66 #[.agg #[.int .i64 n, .int .i64 d, .string t], .int .i64 k, .int .i64 j] w (fun e w' => e = .returned (.agg #[.int .i64 n, .int .i64 d, .string t]) ∧ Below w.heap.size w w') := by
  have hsz : (w.alloc (.cells #[.int .i64 n, .int .i64 d, .string t] 67)).heap.size = w.heap.size + 1 := by simp
  rcases (show (j = 3 ∧ k = 3) ∨ (j = 2 ∧ k = 2) ∨ (j = 2 ∧ k = 1) ∨ (j = 2 ∧ k = 0) ∨ (j = 1 ∧ k = 1) ∨ (j = 1 ∧ k = 0) ∨ (j = 0 ∧ k = 0) by omega) with ⟨rfl, rfl⟩ | ⟨rfl, rfl⟩ | ⟨rfl, rfl⟩ | ⟨rfl, rfl⟩ | ⟨rfl, rfl⟩ | ⟨rfl, rfl⟩ | ⟨rfl, rfl⟩
  all_goals
    clear h0 hk hj hs
    go_enter Tryd.func66, Tryd.ntmps66
    go_wp2
    first | exact item_ret0 rfl rfl rfl (blk_new _ _ hsz.symm) ⟨rfl, below2 w _ _⟩ | exact item_ret0 rfl rfl rfl (blk_new _ _ rfl) ⟨rfl, below2 w _ _⟩ | exact item_ret rfl rfl rfl (blk_new _ _ hsz.symm) ⟨rfl, below_three (below2 w _ _) (by simp) _ _ _⟩
set_option maxHeartbeats 4000000 in
theorem implCnv0 (k : Int) (w : World) (h0 : 0 ≤ k) (hk : k ≤ 2) :
    Calls Tryd.prog 66 #[.agg #[.int .i64 0, .int .i64 0, .string ⟨#[]⟩], .int .i64 k, .int .i64 3] w (fun e w' => e = .returned (.agg #[.int .i64 0, .int .i64 0, .string ⟨#[]⟩]) ∧ Below w.heap.size w w') := by
  have hsz : (w.alloc (.cells #[.int .i64 0, .int .i64 0, .string ⟨#[]⟩] 67)).heap.size = w.heap.size + 1 := by simp
  rcases (show k = 0 ∨ k = 1 ∨ k = 2 by omega) with rfl | rfl | rfl
  all_goals
    clear h0 hk
    go_enter Tryd.func66, Tryd.ntmps66
    go_wp2
    first | exact item_ret0 rfl rfl rfl (blk_new _ _ hsz.symm) ⟨rfl, below2 w _ _⟩ | exact item_ret0 rfl rfl rfl (blk_new _ _ rfl) ⟨rfl, below2 w _ _⟩ | exact item_ret rfl rfl rfl (blk_new _ _ hsz.symm) ⟨rfl, below_three (below2 w _ _) (by simp) _ _ _⟩
set_option maxHeartbeats 4000000 in
theorem implCnvL (n : Int) (w : World) (hn : n = 0 ∨ n = 1) :
    Calls Tryd.prog 66 #[.agg #[.int .i64 n, .int .i64 1, .string ⟨#[]⟩], .int .i64 1, .int .i64 3] w (fun e w' => e = .returned (.agg #[.int .i64 0, .int .i64 1, .string (if n = 0 then falB else truB)]) ∧ Below w.heap.size w w') := by
  obtain ⟨V, hV⟩ : ∃ V, (if n = 0 then falB else truB) = V := ⟨_, rfl⟩
  have CT := Lib.hid (fun (W : World) (_ : Below w.heap.size w W) => implTxtItem V W)
  have CF := Lib.hid (fun (W : World) (_ : Below w.heap.size w W) => (by have h := implFmtLog n 1 ⟨#[]⟩ W; rw [hV] at h; exact h : Calls Tryd.prog 78 #[.agg #[.int .i64 n, .int .i64 1, .string ⟨#[]⟩]] W fun e w' => e = .returned (.string V) ∧ Below W.heap.size W w'))
  rw [hV]
  clear hV hn
  have hsz : (w.alloc (.cells #[.int .i64 n, .int .i64 1, .string ⟨#[]⟩] 67)).heap.size = w.heap.size + 1 := by simp
  obtain ⟨w1, hw1⟩ : ∃ W, (w.alloc (.cells #[.int .i64 n, .int .i64 1, .string ⟨#[]⟩] 67)).alloc (.cells #[.int .i64 0, .int .i64 0, .string ⟨#[]⟩] 67) = W := ⟨_, rfl⟩
  have B1 := Lib.hid (show Below w.heap.size w w1 from hw1 ▸ below2 w _ _)
  have KX := Lib.hid (show w1.heap[w.heap.size]? = some (.cells #[.int .i64 n, .int .i64 1, .string ⟨#[]⟩] 67 (0, 0)) from hw1 ▸ blk_old (blk_new w _ rfl))
  have KZ := Lib.hid (show w1.heap[w.heap.size + 1]? = some (.cells #[.int .i64 0, .int .i64 0, .string ⟨#[]⟩] 67 (0, 0)) from by rw [← hw1]; exact blk_new _ _ hsz.symm)
  have EW := Lib.hid hw1
  clear hw1 hsz
  go_enter Tryd.func66, Tryd.ntmps66
  go_wp2_with fail
  rw [EW.out]
  refine (CF.out w1 B1.out).mono ?_
  rintro e w2 ⟨rfl, b⟩
  have B2 := Lib.hid (below_then B1.out b)
  have KX2 := Lib.hid (blk_below b KX.out)
  have KZ2 := Lib.hid (blk_below b KZ.out)
  clear b
  go_wp2_with fail
  refine (CT.out w2 B2.out).mono ?_
  rintro e w3 ⟨rfl, b⟩
  have B3 := Lib.hid (below_then B2.out b)
  have KX3 := Lib.hid (blk_below b KX2.out)
  have KZ3 := Lib.hid (blk_below b KZ2.out)
  clear b
  obtain ⟨⟨z0, z1, z2⟩, f0, f1, f2⟩ := three KZ3.out
  go_wp2
  exact item_ret rfl rfl rfl KZ3.out ⟨rfl, below_three B3.out (by omega) _ _ _⟩
set_option maxHeartbeats 4000000 in
theorem implCnvN (n d : Int) (t : ByteArray) (w : World) (h : isN ⟨n, d, t⟩ = true) (tab : Lib.TabIs Tryd.prog w "internal/strconv.uint64pow10" .u64 Lib.pow10Tab) :
    Calls Tryd.prog 66 #[.agg #[.int .i64 n, .int .i64 d, .string t], .int .i64 2, .int .i64 3] w (fun e w' => e = .returned (.agg #[.int .i64 0, .int .i64 1, .string (txI ⟨n, d, t⟩)]) ∧ Below w.heap.size w w') := by
  have hi := isN_iff.1 h
  have ht : t.size ≤ 9223372036854775807 := by have : t = ⟨#[]⟩ := hi.1; rw [this]; exact Nat.zero_le _
  have hd : d ≠ 0 := by have := hi.2.1; simp only at this; omega
  have hdb : (d == 0) = false := by simp [hd]
  have TB := Lib.hid tab
  have CF := Lib.hid (fun (W : World) (hb : Below w.heap.size w W) => implTxI n d t W ht (tab_below TB.out hb))
  obtain ⟨V, hV⟩ : ∃ V, txI ⟨n, d, t⟩ = V := ⟨_, rfl⟩
  rw [hV] at CF ⊢
  have CT := Lib.hid (fun (W : World) (_ : Below w.heap.size w W) => implTxtItem V W)
  clear hV hi h ht tab
  have hsz : (w.alloc (.cells #[.int .i64 n, .int .i64 d, .string t] 67)).heap.size = w.heap.size + 1 := by simp
  obtain ⟨w1, hw1⟩ : ∃ W, (w.alloc (.cells #[.int .i64 n, .int .i64 d, .string t] 67)).alloc (.cells #[.int .i64 0, .int .i64 0, .string ⟨#[]⟩] 67) = W := ⟨_, rfl⟩
  have B1 := Lib.hid (show Below w.heap.size w w1 from hw1 ▸ below2 w _ _)
  have KX := Lib.hid (show w1.heap[w.heap.size]? = some (.cells #[.int .i64 n, .int .i64 d, .string t] 67 (0, 0)) from hw1 ▸ blk_old (blk_new w _ rfl))
  have KZ := Lib.hid (show w1.heap[w.heap.size + 1]? = some (.cells #[.int .i64 0, .int .i64 0, .string ⟨#[]⟩] 67 (0, 0)) from by rw [← hw1]; exact blk_new _ _ hsz.symm)
  have EW := Lib.hid hw1
  clear hw1 hsz
  go_enter Tryd.func66, Tryd.ntmps66
  go_wp2_with fail
  rw [EW.out]
  refine (CF.out w1 B1.out).mono ?_
  rintro e w2 ⟨rfl, b⟩
  have B2 := Lib.hid (below_then B1.out b)
  have KX2 := Lib.hid (blk_below b KX.out)
  have KZ2 := Lib.hid (blk_below b KZ.out)
  clear b
  go_wp2_with fail
  refine (CT.out w2 B2.out).mono ?_
  rintro e w3 ⟨rfl, b⟩
  have B3 := Lib.hid (below_then B2.out b)
  have KX3 := Lib.hid (blk_below b KX2.out)
  have KZ3 := Lib.hid (blk_below b KZ2.out)
  clear b
  obtain ⟨⟨z0, z1, z2⟩, f0, f1, f2⟩ := three KZ3.out
  go_wp2
  exact item_ret rfl rfl rfl KZ3.out ⟨rfl, below_three B3.out (by omega) _ _ _⟩
theorem implCnv (k j : Int) (x : It) (w : World) (h : ItOk k x) (h0 : 0 ≤ k) (hk : k ≤ j) (hj : j ≤ 3) (tab : Lib.TabIs Tryd.prog w "internal/strconv.uint64pow10" .u64 Lib.pow10Tab) :
    Calls Tryd.prog 66 #[.agg #[.int .i64 x.n, .int .i64 x.d, .string x.t], .int .i64 k, .int .i64 j] w (fun e w' => e = .returned (.agg #[.int .i64 (cnvI k j x).n, .int .i64 (cnvI k j x).d, .string (cnvI k j x).t]) ∧ Below w.heap.size w w') := by
  by_cases hs : k = j ∨ j ≠ 3
  · rw [cnv_same (hs.imp id .inl)]
    exact implCnvS k j x.n x.d x.t w h0 hk hj hs
  · obtain rfl : j = 3 := by omega
    rcases h with rfl | ⟨rfl, h1, h2, h3, h4⟩ | ⟨rfl, h1⟩ | ⟨rfl, h1⟩
    · rw [cnv_same (.inr (.inr rfl))]
      exact implCnv0 k w h0 (by omega)
    · obtain ⟨n, d, t⟩ := x
      obtain rfl : t = ⟨#[]⟩ := empty_of_size h4
      obtain rfl : d = 1 := h1
      rw [cnv_log (show (1 : Int) ≠ 0 by decide)]
      exact implCnvL n w (by simp only at h2 h3; omega)
    · have hi := isN_iff.1 h1
      rw [cnv_num (by omega)]
      exact implCnvN x.n x.d x.t w h1 tab
    · omega
set_option maxHeartbeats 4000000 in
theorem specCnvS (k j n d : Int) (t : ByteArray) (w : World) (h0 : 0 ≤ k) (hk : k ≤ j) (hj : j ≤ 3) (hs : k = j ∨ j ≠ 3) :
    Calls Tryd.prog 63 #[.int .i64 k, .int .i64 j, .agg #[.int .i64 n, .int .i64 d, .string t]] w (fun e w' => e = .returned (.agg #[.int .i64 n, .int .i64 d, .string t]) ∧ Below w.heap.size w w') := by
  have hsz : (w.alloc (.cells #[.int .i64 n, .int .i64 d, .string t] 67)).heap.size = w.heap.size + 1 := by simp
  rcases (show (j = 3 ∧ k = 3) ∨ (j = 2 ∧ k = 2) ∨ (j = 2 ∧ k = 1) ∨ (j = 2 ∧ k = 0) ∨ (j = 1 ∧ k = 1) ∨ (j = 1 ∧ k = 0) ∨ (j = 0 ∧ k = 0) by omega) with ⟨rfl, rfl⟩ | ⟨rfl, rfl⟩ | ⟨rfl, rfl⟩ | ⟨rfl, rfl⟩ | ⟨rfl, rfl⟩ | ⟨rfl, rfl⟩ | ⟨rfl, rfl⟩
  all_goals
    clear h0 hk hj hs
    go_enter Tryd.func63, Tryd.ntmps63
    go_wp2
    first | exact item_ret0 rfl rfl rfl (blk_new _ _ hsz.symm) ⟨rfl, below2 w _ _⟩ | exact item_ret0 rfl rfl rfl (blk_new _ _ rfl) ⟨rfl, below2 w _ _⟩ | exact item_ret rfl rfl rfl (blk_new _ _ hsz.symm) ⟨rfl, below_three (below2 w _ _) (by simp) _ _ _⟩
set_option maxHeartbeats 4000000 in
theorem specCnv0 (k : Int) (w : World) (h0 : 0 ≤ k) (hk : k ≤ 2) :
    Calls Tryd.prog 63 #[.int .i64 k, .int .i64 3, .agg #[.int .i64 0, .int .i64 0, .string ⟨#[]⟩]] w (fun e w' => e = .returned (.agg #[.int .i64 0, .int .i64 0, .string ⟨#[]⟩]) ∧ Below w.heap.size w w') := by
  have hsz : (w.alloc (.cells #[.int .i64 0, .int .i64 0, .string ⟨#[]⟩] 67)).heap.size = w.heap.size + 1 := by simp
  rcases (show k = 0 ∨ k = 1 ∨ k = 2 by omega) with rfl | rfl | rfl
  all_goals
    clear h0 hk
    go_enter Tryd.func63, Tryd.ntmps63
    go_wp2
    first | exact item_ret0 rfl rfl rfl (blk_new _ _ hsz.symm) ⟨rfl, below2 w _ _⟩ | exact item_ret0 rfl rfl rfl (blk_new _ _ rfl) ⟨rfl, below2 w _ _⟩ | exact item_ret rfl rfl rfl (blk_new _ _ hsz.symm) ⟨rfl, below_three (below2 w _ _) (by simp) _ _ _⟩
set_option maxHeartbeats 4000000 in
theorem specCnvL (n : Int) (w : World) (hn : n = 0 ∨ n = 1) :
    Calls Tryd.prog 63 #[.int .i64 1, .int .i64 3, .agg #[.int .i64 n, .int .i64 1, .string ⟨#[]⟩]] w (fun e w' => e = .returned (.agg #[.int .i64 0, .int .i64 1, .string (if n = 0 then falB else truB)]) ∧ Below w.heap.size w w') := by
  rcases hn with rfl | rfl
  · have CT := Lib.hid (fun (W : World) => specTxtItem falB W)
    have hsz : (w.alloc (.cells #[.int .i64 0, .int .i64 1, .string ⟨#[]⟩] 67)).heap.size = w.heap.size + 1 := by simp
    obtain ⟨w1, hw1⟩ : ∃ W, (w.alloc (.cells #[.int .i64 0, .int .i64 1, .string ⟨#[]⟩] 67)).alloc (.cells #[.int .i64 0, .int .i64 0, .string ⟨#[]⟩] 67) = W := ⟨_, rfl⟩
    have B1 := Lib.hid (show Below w.heap.size w w1 from hw1 ▸ below2 w _ _)
    have KZ := Lib.hid (show w1.heap[w.heap.size + 1]? = some (.cells #[.int .i64 0, .int .i64 0, .string ⟨#[]⟩] 67 (0, 0)) from by rw [← hw1]; exact blk_new _ _ hsz.symm)
    have EW := Lib.hid hw1
    clear hw1 hsz
    go_enter Tryd.func63, Tryd.ntmps63
    go_wp2_with fail
    rw [EW.out]
    refine (CT.out _).mono ?_
    rintro e w3 ⟨rfl, b⟩
    have b0 : Below w1.heap.size w1 w3 := below_then (below1 w1 _) b
    have B2 := Lib.hid (below_then B1.out b0)
    have KZ2 := Lib.hid (blk_below b0 KZ.out)
    clear b b0
    obtain ⟨⟨z0, z1, z2⟩, f0, f1, f2⟩ := three KZ2.out
    go_wp2
    exact item_ret rfl rfl rfl KZ2.out ⟨rfl, below_three B2.out (by omega) _ _ _⟩
  · have CT := Lib.hid (fun (W : World) => specTxtItem truB W)
    have hsz : (w.alloc (.cells #[.int .i64 1, .int .i64 1, .string ⟨#[]⟩] 67)).heap.size = w.heap.size + 1 := by simp
    obtain ⟨w1, hw1⟩ : ∃ W, (w.alloc (.cells #[.int .i64 1, .int .i64 1, .string ⟨#[]⟩] 67)).alloc (.cells #[.int .i64 0, .int .i64 0, .string ⟨#[]⟩] 67) = W := ⟨_, rfl⟩
    have B1 := Lib.hid (show Below w.heap.size w w1 from hw1 ▸ below2 w _ _)
    have KZ := Lib.hid (show w1.heap[w.heap.size + 1]? = some (.cells #[.int .i64 0, .int .i64 0, .string ⟨#[]⟩] 67 (0, 0)) from by rw [← hw1]; exact blk_new _ _ hsz.symm)
    have EW := Lib.hid hw1
    clear hw1 hsz
    go_enter Tryd.func63, Tryd.ntmps63
    go_wp2_with fail
    rw [EW.out]
    refine (CT.out _).mono ?_
    rintro e w3 ⟨rfl, b⟩
    have b0 : Below w1.heap.size w1 w3 := below_then (below1 w1 _) b
    have B2 := Lib.hid (below_then B1.out b0)
    have KZ2 := Lib.hid (blk_below b0 KZ.out)
    clear b b0
    obtain ⟨⟨z0, z1, z2⟩, f0, f1, f2⟩ := three KZ2.out
    go_wp2
    exact item_ret rfl rfl rfl KZ2.out ⟨rfl, below_three B2.out (by omega) _ _ _⟩
set_option maxHeartbeats 4000000 in
theorem specCnvN (n d : Int) (t : ByteArray) (w : World) (h : isN ⟨n, d, t⟩ = true) :
    Calls Tryd.prog 63 #[.int .i64 2, .int .i64 3, .agg #[.int .i64 n, .int .i64 d, .string t]] w (fun e w' => e = .returned (.agg #[.int .i64 0, .int .i64 1, .string (txI ⟨n, d, t⟩)]) ∧ Below w.heap.size w w') := by
  have hi := isN_iff.1 h
  have ht : t.size ≤ 9223372036854775807 := by have : t = ⟨#[]⟩ := hi.1; rw [this]; exact Nat.zero_le _
  have hd : d ≠ 0 := by have := hi.2.1; simp only at this; omega
  have hdb : (d == 0) = false := by simp [hd]
  have CF := Lib.hid (fun (W : World) (hb : Below w.heap.size w W) => specTxI n d t W ht)
  obtain ⟨V, hV⟩ : ∃ V, txI ⟨n, d, t⟩ = V := ⟨_, rfl⟩
  rw [hV] at CF ⊢
  have CT := Lib.hid (fun (W : World) (_ : Below w.heap.size w W) => specTxtItem V W)
  clear hV hi h ht
  have hsz : (w.alloc (.cells #[.int .i64 n, .int .i64 d, .string t] 67)).heap.size = w.heap.size + 1 := by simp
  obtain ⟨w1, hw1⟩ : ∃ W, (w.alloc (.cells #[.int .i64 n, .int .i64 d, .string t] 67)).alloc (.cells #[.int .i64 0, .int .i64 0, .string ⟨#[]⟩] 67) = W := ⟨_, rfl⟩
  have B1 := Lib.hid (show Below w.heap.size w w1 from hw1 ▸ below2 w _ _)
  have KX := Lib.hid (show w1.heap[w.heap.size]? = some (.cells #[.int .i64 n, .int .i64 d, .string t] 67 (0, 0)) from hw1 ▸ blk_old (blk_new w _ rfl))
  have KZ := Lib.hid (show w1.heap[w.heap.size + 1]? = some (.cells #[.int .i64 0, .int .i64 0, .string ⟨#[]⟩] 67 (0, 0)) from by rw [← hw1]; exact blk_new _ _ hsz.symm)
  have EW := Lib.hid hw1
  clear hw1 hsz
  go_enter Tryd.func63, Tryd.ntmps63
  go_wp2_with fail
  rw [EW.out]
  refine (CF.out w1 B1.out).mono ?_
  rintro e w2 ⟨rfl, b⟩
  have B2 := Lib.hid (below_then B1.out b)
  have KX2 := Lib.hid (blk_below b KX.out)
  have KZ2 := Lib.hid (blk_below b KZ.out)
  clear b
  go_wp2_with fail
  refine (CT.out w2 B2.out).mono ?_
  rintro e w3 ⟨rfl, b⟩
  have B3 := Lib.hid (below_then B2.out b)
  have KX3 := Lib.hid (blk_below b KX2.out)
  have KZ3 := Lib.hid (blk_below b KZ2.out)
  clear b
  obtain ⟨⟨z0, z1, z2⟩, f0, f1, f2⟩ := three KZ3.out
  go_wp2
  exact item_ret rfl rfl rfl KZ3.out ⟨rfl, below_three B3.out (by omega) _ _ _⟩
theorem specCnv (k j : Int) (x : It) (w : World) (h : ItOk k x) (h0 : 0 ≤ k) (hk : k ≤ j) (hj : j ≤ 3) :
    Calls Tryd.prog 63 #[.int .i64 k, .int .i64 j, .agg #[.int .i64 x.n, .int .i64 x.d, .string x.t]] w (fun e w' => e = .returned (.agg #[.int .i64 (cnvI k j x).n, .int .i64 (cnvI k j x).d, .string (cnvI k j x).t]) ∧ Below w.heap.size w w') := by
  by_cases hs : k = j ∨ j ≠ 3
  · rw [cnv_same (hs.imp id .inl)]
    exact specCnvS k j x.n x.d x.t w h0 hk hj hs
  · obtain rfl : j = 3 := by omega
    rcases h with rfl | ⟨rfl, h1, h2, h3, h4⟩ | ⟨rfl, h1⟩ | ⟨rfl, h1⟩
    · rw [cnv_same (.inr (.inr rfl))]
      exact specCnv0 k w h0 (by omega)
    · obtain ⟨n, d, t⟩ := x
      obtain rfl : t = ⟨#[]⟩ := empty_of_size h4
      obtain rfl : d = 1 := h1
      rw [cnv_log (show (1 : Int) ≠ 0 by decide)]
      exact specCnvL n w (by simp only at h2 h3; omega)
    · have hi := isN_iff.1 h1
      rw [cnv_num (by omega)]
      exact specCnvN x.n x.d x.t w h1
    · omega
end Go.Proofs.YtddebgmjolojeaaDoor

/- CombineVectors: the name of an element, on both sides. -/
namespace Go.Proofs.YtddebgmjolojeaaDoor
open Go.RowKit
set_option maxRecDepth 100000
set_option linter.unusedVariables false

def nmA (l : List ByteArray) (k : Nat) : ByteArray := l.getD k ⟨#[]⟩
/-- The name of element k of a part with the label. -/
def cmbN (label own : ByteArray) (len k : Nat) : ByteArray := if label = ⟨#[]⟩ then own else if own ≠ ⟨#[]⟩ then label ++ ⟨#[46]⟩ ++ own else if len = 1 then label else label ++ ⟨(Lib.itoa ((k : Int) + 1)).toArray⟩
theorem nmA_at {l : List ByteArray} {k : Nat} (h : k < l.length) : l[k]? = some (nmA l k) := by unfold nmA; rw [List.getD_eq_getElem?_getD, List.getElem?_eq_getElem h]; rfl
theorem nmA_no {l : List ByteArray} {k : Nat} (h : l.length = 0) : nmA l k = ⟨#[]⟩ := by obtain rfl : l = [] := List.eq_nil_of_length_eq_zero h; rfl
theorem nmA_size {l : List ByteArray} (h : ∀ s ∈ l, s.size ≤ 1048576) (k : Nat) : (nmA l k).size ≤ 1048576 := by
  unfold nmA
  rw [List.getD_eq_getElem?_getD]
  cases q : l[k]? with
  | none => exact Nat.zero_le _
  | some u => exact h u (List.mem_of_getElem? q)
theorem implNameAt (l : List ByteArray) (a : Option Addr) (c lo hi k : Nat) (w : World) (hT : TextsAt lo hi w a l) (hhi : hi ≤ w.heap.size) (hk : l.length ≠ 0 → k < l.length) (hl : l.length ≤ 1048576) :
    Calls Tryd.prog 47 #[.slice a l.length c, .int .i64 k] w fun e w' => e = .returned (.string (nmA l k)) ∧ Below w.heap.size w w' := by
  by_cases h0 : l.length = 0
  · rw [nmA_no h0, h0]
    clear hk h0 hT
    go_enter Tryd.func47, Tryd.ntmps47
    go_wp2
    go_ret
    exact ⟨rfl, Below.refl _ _⟩
  · have hlt := hk h0
    obtain ⟨b, off, rfl, _, hb, hc⟩ := hT _ _ (nmA_at hlt)
    have hbw : b < w.heap.size := by omega
    obtain ⟨s, hs⟩ : ∃ s, nmA l k = s := ⟨_, rfl⟩
    rw [hs] at hc ⊢
    have hnb : ((l.length : Int) == 0) = false := beq_eq_false_iff_ne.2 (by omega)
    clear hs hk hT
    go_enter Tryd.func47, Tryd.ntmps47
    go_wp2
    go_ret
    exact ⟨rfl, Below.refl _ _⟩
set_option maxHeartbeats 4000000 in
theorem implCmbN (label : ByteArray) (kk : Int) (items : List It) (parts : List Vec) (names cls levels : List ByteArray) (code env : Int) (ai ap an ac al : Option Addr) (ci cp cn cc cl lo hi k : Nat) (w : World) (hN : TextsAt lo hi w an names) (hhi : hi ≤ w.heap.size) (hk : names.length ≠ 0 → k < names.length) (hl : names.length ≤ 1048576) (li : items.length ≤ 1048576) (lp : parts.length ≤ 1048576) (hk2 : k ≤ 1048576) (z1 : label.size ≤ 1048576) (z2 : ∀ s ∈ names, s.size ≤ 1048576) (tab : Lib.TabIs Tryd.prog w "internal/strconv.uint64pow10" .u64 Lib.pow10Tab) :
    Calls Tryd.prog 46 #[.string label, .agg #[.int .i64 kk, .slice ai items.length ci, .slice ap parts.length cp, .slice an names.length cn, .slice ac cls.length cc, .slice al levels.length cl, .int .i64 code, .int .i64 env], .int .i64 k] w fun e w' => e = .returned (.string (cmbN label (nmA names k) (lenV kk items.length parts.length) k)) ∧ Below w.heap.size w w' := by
  have CN := Lib.hid (fun (W : World) (hb : Below w.heap.size w W) => implNameAt names an cn lo hi k W (hN.below hb hhi) (Nat.le_trans hhi hb.size) hk hl)
  have CL := Lib.hid (fun (W : World) => implLen kk ai ap an ac al items.length ci parts.length cp names.length cn cls.length cc levels.length cl code env W li lp)
  have CF := Lib.hid (fun (W : World) (hb : Below w.heap.size w W) => implFmt ((k : Int) + 1) W (by omega) (by omega) (tab_below tab hb))
  have B1 := Lib.hid (below1 w (.cells #[.int .i64 kk, .slice ai items.length ci, .slice ap parts.length cp, .slice an names.length cn, .slice ac cls.length cc, .slice al levels.length cl, .int .i64 code, .int .i64 env] 31))
  have KA := Lib.hid (blk_new w (.cells #[.int .i64 kk, .slice ai items.length ci, .slice ap parts.length cp, .slice an names.length cn, .slice ac cls.length cc, .slice al levels.length cl, .int .i64 code, .int .i64 env] 31) rfl)
  have zo : (nmA names k).size ≤ 1048576 := nmA_size z2 k
  have zi := Lib.itoa_length_le ((k : Int) + 1) (by omega) (by omega)
  obtain ⟨own, how⟩ : ∃ s, nmA names k = s := ⟨_, rfl⟩
  obtain ⟨len, hlen⟩ : ∃ s, lenV kk items.length parts.length = s := ⟨_, rfl⟩
  rw [how, hlen]
  rw [how] at CN zo
  have n1 : ¬ (9223372036854775807 < label.size + 1) := by omega
  have n2 : ¬ (9223372036854775807 < label.size + 1 + own.size) := by omega
  have n3 : ¬ (9223372036854775807 < label.size + (Lib.itoa ((k : Int) + 1)).length) := by omega
  rw [hlen] at CL
  clear how hlen hN hk tab zo zi z1 z2
  by_cases h1 : label = ⟨#[]⟩
  · have X := Lib.hid (show cmbN label own len k = own by unfold cmbN; rw [if_pos h1])
    subst h1
    go_enter Tryd.func46, Tryd.ntmps46
    go_wp2_with fail
    with_reducible refine (CN.out _ B1.out).mono ?_
    rintro e w2 ⟨rfl, b⟩
    have B2 := Lib.hid (below_then B1.out b)
    clear b
    go_wp2
    go_ret
    exact ⟨by first | (rw [X.out]; done) | (rw [X.out]; rfl), B2.out⟩
  · have h1b : (label.toList == []) = false := by have h := str_not h1; rw [ByteArray.toList_eq ⟨#[]⟩] at h; exact h
    by_cases h2 : own = ⟨#[]⟩
    · by_cases h3 : len = 1
      · have X := Lib.hid (show cmbN label own len k = label by unfold cmbN; rw [if_neg h1, if_neg (by rw [h2]; simp), if_pos h3])
        subst h2
        subst h3
        clear h1
        go_enter Tryd.func46, Tryd.ntmps46
        go_wp2_with fail
        with_reducible refine (CN.out _ B1.out).mono ?_
        rintro e w2 ⟨rfl, b⟩
        have B2 := Lib.hid (below_then B1.out b)
        obtain ⟨y0, y1, y2, y3, y4, y5, y6, y7⟩ := vec8 (blk_below b KA.out)
        clear b
        go_wp2_with fail
        with_reducible refine (CL.out _).mono ?_
        rintro e w3 ⟨rfl, b⟩
        have B3 := Lib.hid (below_then B2.out b)
        clear b y0 y1 y2 y3 y4 y5 y6 y7
        go_wp2
        go_ret
        exact ⟨by first | (rw [X.out]; done) | (rw [X.out]; rfl), B3.out⟩
      · have X := Lib.hid (show cmbN label own len k = label ++ ⟨(Lib.itoa ((k : Int) + 1)).toArray⟩ by unfold cmbN; rw [if_neg h1, if_neg (by rw [h2]; simp), if_neg h3])
        have h3b : ((len : Int) == 1) = false := beq_eq_false_iff_ne.2 (by omega)
        subst h2
        clear h1 h3
        go_enter Tryd.func46, Tryd.ntmps46
        go_wp2_with fail
        with_reducible refine (CN.out _ B1.out).mono ?_
        rintro e w2 ⟨rfl, b⟩
        have B2 := Lib.hid (below_then B1.out b)
        obtain ⟨y0, y1, y2, y3, y4, y5, y6, y7⟩ := vec8 (blk_below b KA.out)
        clear b
        go_wp2_with fail
        with_reducible refine (CL.out _).mono ?_
        rintro e w3 ⟨rfl, b⟩
        have B3 := Lib.hid (below_then B2.out b)
        clear b y0 y1 y2 y3 y4 y5 y6 y7
        go_wp2_with fail
        with_reducible refine (CF.out _ B3.out).mono ?_
        rintro e w4 ⟨rfl, b⟩
        have B4 := Lib.hid (below_then B3.out b)
        clear b
        go_wp2
        go_ret
        exact ⟨by first | (rw [X.out]; done) | (rw [X.out]; rfl), B4.out⟩
    · have X := Lib.hid (show cmbN label own len k = label ++ ⟨#[46]⟩ ++ own by unfold cmbN; rw [if_neg h1, if_pos h2])
      have h2b : (own.toList == []) = false := by have h := str_not h2; rw [ByteArray.toList_eq ⟨#[]⟩] at h; exact h
      clear h1 h2
      go_enter Tryd.func46, Tryd.ntmps46
      go_wp2_with fail
      with_reducible refine (CN.out _ B1.out).mono ?_
      rintro e w2 ⟨rfl, b⟩
      have B2 := Lib.hid (below_then B1.out b)
      clear b
      go_wp2
      go_ret
      exact ⟨by first | (rw [X.out]; done) | (rw [X.out]; rfl), B2.out⟩
set_option maxHeartbeats 4000000 in
theorem specCmbN (label : ByteArray) (kk : Int) (items : List It) (parts : List Vec) (names cls levels : List ByteArray) (code env : Int) (ai ap an ac al : Option Addr) (ci cp cn cc cl lo hi k : Nat) (w : World) (hN : TextsAt lo hi w an names) (hhi : hi ≤ w.heap.size) (hk : names.length ≠ 0 → k < names.length) (hl : names.length ≤ 1048576) (li : items.length ≤ 1048576) (lp : parts.length ≤ 1048576) (hk2 : k ≤ 1048576) (z1 : label.size ≤ 1048576) (z2 : ∀ s ∈ names, s.size ≤ 1048576) :
    Calls Tryd.prog 38 #[.string label, .agg #[.int .i64 kk, .slice ai items.length ci, .slice ap parts.length cp, .slice an names.length cn, .slice ac cls.length cc, .slice al levels.length cl, .int .i64 code, .int .i64 env], .int .i64 k] w fun e w' => e = .returned (.string (cmbN label (nmA names k) (lenV kk items.length parts.length) k)) ∧ Below w.heap.size w w' := by
  have CL := Lib.hid (fun (W : World) => specLen kk ai ap an ac al items.length ci parts.length cp names.length cn cls.length cc levels.length cl code env W li lp)
  have CF := Lib.hid (fun (W : World) => specFmt ((k : Int) + 1) W (by omega) (by omega))
  have B1 := Lib.hid (below1 w (.cells #[.int .i64 kk, .slice ai items.length ci, .slice ap parts.length cp, .slice an names.length cn, .slice ac cls.length cc, .slice al levels.length cl, .int .i64 code, .int .i64 env] 31))
  obtain ⟨len, hlen⟩ : ∃ s, lenV kk items.length parts.length = s := ⟨_, rfl⟩
  rw [hlen] at CL ⊢
  clear hlen
  have zo : (nmA names k).size ≤ 1048576 := nmA_size z2 k
  have zi := Lib.itoa_length_le ((k : Int) + 1) (by omega) (by omega)
  have n3 : ¬ (9223372036854775807 < label.size + (Lib.itoa ((k : Int) + 1)).length) := by omega
  by_cases h0 : names.length = 0
  · rw [nmA_no h0]
    rw [h0] at CL B1 ⊢
    clear hN hk h0 zo zi z1 z2
    by_cases h1 : label = ⟨#[]⟩
    · have X := Lib.hid (show cmbN label ⟨#[]⟩ len k = ⟨#[]⟩ by unfold cmbN; rw [if_pos h1])
      subst h1
      go_enter Tryd.func38, Tryd.ntmps38
      go_wp2
      go_ret
      exact ⟨by first | (rw [X.out]; done) | (rw [X.out]; rfl), B1.out⟩
    · have h1b : (label.toList == []) = false := by have h := str_not h1; rw [ByteArray.toList_eq ⟨#[]⟩] at h; exact h
      by_cases h3 : len = 1
      · have X := Lib.hid (show cmbN label ⟨#[]⟩ len k = label by unfold cmbN; rw [if_neg h1, if_neg (by simp), if_pos h3])
        subst h3
        clear h1
        go_enter Tryd.func38, Tryd.ntmps38
        go_wp2_with fail
        with_reducible refine (CL.out _).mono ?_
        rintro e w3 ⟨rfl, b⟩
        have B3 := Lib.hid (below_then B1.out b)
        clear b
        go_wp2
        go_ret
        exact ⟨by first | (rw [X.out]; done) | (rw [X.out]; rfl), B3.out⟩
      · have X := Lib.hid (show cmbN label ⟨#[]⟩ len k = label ++ ⟨(Lib.itoa ((k : Int) + 1)).toArray⟩ by unfold cmbN; rw [if_neg h1, if_neg (by simp), if_neg h3])
        have h3b : ((len : Int) == 1) = false := beq_eq_false_iff_ne.2 (by omega)
        clear h1 h3
        go_enter Tryd.func38, Tryd.ntmps38
        go_wp2_with fail
        with_reducible refine (CL.out _).mono ?_
        rintro e w3 ⟨rfl, b⟩
        have B3 := Lib.hid (below_then B1.out b)
        clear b
        go_wp2_with fail
        with_reducible refine (CF.out _).mono ?_
        rintro e w4 ⟨rfl, rfl⟩
        go_wp2
        go_ret
        exact ⟨by first | (rw [X.out]; done) | (rw [X.out]; rfl), B3.out⟩
  · have hlt := hk h0
    obtain ⟨b, off, rfl, _, hb, hc⟩ := hN _ _ (nmA_at hlt)
    have hbw : b < w.heap.size := by omega
    have hnb : (0 : Int) < names.length := by omega
    obtain ⟨own, how⟩ : ∃ s, nmA names k = s := ⟨_, rfl⟩
    rw [how] at hc zo ⊢
    have n1 : ¬ (9223372036854775807 < label.size + 1) := by omega
    have n2 : ¬ (9223372036854775807 < label.size + 1 + own.size) := by omega
    clear how hN hk zo zi z1 z2
    by_cases h1 : label = ⟨#[]⟩
    · have X := Lib.hid (show cmbN label own len k = own by unfold cmbN; rw [if_pos h1])
      subst h1
      go_enter Tryd.func38, Tryd.ntmps38
      go_wp2
      go_ret
      exact ⟨by first | (rw [X.out]; done) | (rw [X.out]; rfl), B1.out⟩
    · have h1b : (label.toList == []) = false := by have h := str_not h1; rw [ByteArray.toList_eq ⟨#[]⟩] at h; exact h
      by_cases h2 : own = ⟨#[]⟩
      · by_cases h3 : len = 1
        · have X := Lib.hid (show cmbN label own len k = label by unfold cmbN; rw [if_neg h1, if_neg (by rw [h2]; simp), if_pos h3])
          subst h2
          subst h3
          clear h1
          go_enter Tryd.func38, Tryd.ntmps38
          go_wp2_with fail
          with_reducible refine (CL.out _).mono ?_
          rintro e w3 ⟨rfl, b⟩
          have B3 := Lib.hid (below_then B1.out b)
          clear b
          go_wp2
          go_ret
          exact ⟨by first | (rw [X.out]; done) | (rw [X.out]; rfl), B3.out⟩
        · have X := Lib.hid (show cmbN label own len k = label ++ ⟨(Lib.itoa ((k : Int) + 1)).toArray⟩ by unfold cmbN; rw [if_neg h1, if_neg (by rw [h2]; simp), if_neg h3])
          have h3b : ((len : Int) == 1) = false := beq_eq_false_iff_ne.2 (by omega)
          subst h2
          clear h1 h3
          go_enter Tryd.func38, Tryd.ntmps38
          go_wp2_with fail
          with_reducible refine (CL.out _).mono ?_
          rintro e w3 ⟨rfl, b⟩
          have B3 := Lib.hid (below_then B1.out b)
          clear b
          go_wp2_with fail
          with_reducible refine (CF.out _).mono ?_
          rintro e w4 ⟨rfl, rfl⟩
          go_wp2
          go_ret
          exact ⟨by first | (rw [X.out]; done) | (rw [X.out]; rfl), B3.out⟩
      · have X := Lib.hid (show cmbN label own len k = label ++ ⟨#[46]⟩ ++ own by unfold cmbN; rw [if_neg h1, if_pos h2])
        have h2b : (own.toList == []) = false := by have h := str_not h2; rw [ByteArray.toList_eq ⟨#[]⟩] at h; exact h
        clear h1 h2
        go_enter Tryd.func38, Tryd.ntmps38
        go_wp2
        go_ret
        exact ⟨by first | (rw [X.out]; done) | (rw [X.out]; rfl), B1.out⟩
end Go.Proofs.YtddebgmjolojeaaDoor

/- CombineVectors: what the program asks of the whole list. -/
namespace Go.Proofs.YtddebgmjolojeaaDoor
open Go.RowKit
set_option maxRecDepth 100000
set_option linter.unusedVariables false

def AllV (l : List Vec) : Prop := ∀ i, i < l.length → ValidV (l.getD i noV)
/-- The lengths of the first k, in all. -/
def totL (l : List Vec) (k : Nat) : Nat := sumN (fun i => lengthV (l.getD i noV)) k
/-- The latest kind of the first k; functions count as lists. -/
def latL (l : List Vec) : Nat → Int
  | 0 => 0
  | k + 1 => max (latL l k) (min (kindV (l.getD k noV)) 4)
theorem latL_in (l : List Vec) (h : ∀ i, i < l.length → 0 ≤ kindV (l.getD i noV)) : ∀ k, k ≤ l.length → 0 ≤ latL l k ∧ latL l k ≤ 4
  | 0, _ => ⟨Int.le_refl (0 : Int), show (0 : Int) ≤ 4 by decide⟩
  | k + 1, hk => by
    have h1 := latL_in l h k (by omega)
    have h2 := h k (by omega)
    show 0 ≤ max (latL l k) (min (kindV (l.getD k noV)) 4) ∧ max (latL l k) (min (kindV (l.getD k noV)) 4) ≤ 4
    omega
theorem latL_ge (l : List Vec) : ∀ k i, i < k → min (kindV (l.getD i noV)) 4 ≤ latL l k
  | 0, i, h => absurd h (Nat.not_lt_zero _)
  | k + 1, i, h => by
    show _ ≤ max (latL l k) (min (kindV (l.getD k noV)) 4)
    rcases Nat.lt_or_ge i k with h1 | h1
    · have := latL_ge l k i h1; omega
    · obtain rfl : i = k := by omega
      omega
theorem valid_len {v : Vec} (h : ValidV v) : lengthV v ≤ 40 := by
  obtain ⟨kk, items, parts, names, cls, levels, code, env⟩ := v
  exact h.1.flat.h_len
theorem totL_le {l : List Vec} (h : AllV l) : ∀ k, k ≤ l.length → totL l k ≤ 40 * k
  | 0, _ => Nat.le_refl _
  | k + 1, hk => by
    have h1 := totL_le h k (by omega)
    have h2 := valid_len (h k (by omega))
    show totL l k + lengthV (l.getD k noV) ≤ 40 * (k + 1)
    omega
theorem valid_next {l : List Vec} {k : Nat} (h : ∀ j, j < k → ValidV (l.getD j noV)) (q : ValidV (l.getD k noV)) : ∀ j, j < k + 1 → ValidV (l.getD j noV) := fun j hj => by
  rcases Nat.lt_or_ge j k with h1 | h1
  · exact h j h1
  · obtain rfl : j = k := by omega
    exact q
theorem implLenV (d : Nat) (v : Vec) (val : Value) (lo hi : Nat) (w : World) (hv : VecAt lo hi w d v val) (hsm : Small d v) :
    Calls Tryd.prog 45 #[val] w fun e w' => e = .returned (.int .i64 (lengthV v)) ∧ Below w.heap.size w w' := by
  obtain ⟨kk, items, parts, names, cls, levels, code, env⟩ := v
  obtain ⟨d', ai, ci, ap, cp, an, cn, ac, cc, al, cl, ed, rfl, hI, hN, hC, hL, hP⟩ := vecAt_open hv
  subst ed
  exact implLen kk ai ap an ac al items.length ci parts.length cp names.length cn cls.length cc levels.length cl code env w hsm.1 hsm.2.1
set_option maxHeartbeats 2000000 in
theorem implAreL (d : Nat) (l : List Vec) (a : Option Addr) (c lo hi : Nat) (w : World) (hP : VecsAt lo hi w d a l) (hhi : hi ≤ w.heap.size) (hsp : ∀ i, i < l.length → Small d (l.getD i noV)) (ll : l.length ≤ 1048576) :
    Calls Tryd.prog 41 #[.slice a l.length c] w fun e w' => e = .returned (.bool (bB (AllV l))) ∧ Below w.heap.size w w' := by
  have HP := Lib.hid (fun (k : Nat) (hk : k < l.length) (w1 : World) (hb : Below w.heap.size w w1) => (hP.below hb hhi).at_ hk)
  have CI := Lib.hid (fun (k : Nat) (hk : k < l.length) (y : Value) (w1 : World) (hb : Below w.heap.size w w1) (h : VecAt lo hi w1 d (l.getD k noV) y) => implIsVector d (l.getD k noV) y lo hi w1 h (Nat.le_trans hhi hb.size) (hsp k hk))
  have XA := Lib.hid (show AllV l ↔ ∀ i, i < l.length → ValidV (l.getD i noV) from Iff.rfl)
  obtain ⟨R, hR⟩ : ∃ R, AllV l = R := ⟨_, rfl⟩
  rw [hR] at XA ⊢
  obtain ⟨n, hn⟩ : ∃ n, l.length = n := ⟨_, rfl⟩
  rw [hn] at HP CI XA ll ⊢
  clear hn hR hP hsp
  go_enter Tryd.func41, Tryd.ntmps41
  go_wp2
  go_loopw [7] (fun i wr => ∃ k : Nat, k ≤ n ∧ i = .int .i64 k ∧ (∀ j, j < k → ValidV (l.getD j noV)) ∧ Below w.heap.size w wr) (fun i _ => n - (intOf i).toNat)
  case atStart => exact ⟨0, Nat.zero_le _, rfl, (fun _ h => absurd h (Nat.not_lt_zero _)), Below.refl _ _⟩
  case round =>
    obtain ⟨k, hk, rfl, hpv, hbw⟩ := hrel
    have BW := Lib.hid hbw
    have PV := Lib.hid hpv
    clear hbw hpv
    by_cases hlt : k < n
    · obtain ⟨b, off, c0, c1, c2, c3, c4, c5, c6, c7, rfl, hb, hva, g0, g1, g2, g3, g4, g5, g6, g7⟩ := HP.out k hlt wr BW.out
      have hbr : b < wr.heap.size := by have := BW.out.size; omega
      have VA := Lib.hid (hva.below (below1 wr (.cells #[c0, c1, c2, c3, c4, c5, c6, c7] 31)) (by have := BW.out.size; omega))
      have B5 := Lib.hid (BW.out.alloc BW.out.size (.cells #[c0, c1, c2, c3, c4, c5, c6, c7] 31))
      obtain ⟨yk, ya1, yn1, ym1, ya2, yn2, ym2, ya3, yn3, ym3, ya4, yn4, ym4, ya5, yn5, ym5, yc, ye, e⟩ := hva.agg
      simp only [Value.agg.injEq, Array.mk.injEq, List.cons.injEq, and_true] at e
      obtain ⟨rfl, rfl, rfl, rfl, rfl, rfl, rfl, rfl⟩ := e
      clear hva
      go_wp2_with fail
      with_reducible refine (CI.out k hlt _ _ B5.out VA.out).mono ?_
      rintro e w' ⟨rfl, b'⟩
      have BN := Lib.hid (below_then B5.out b')
      clear b'
      by_cases q : ValidV (l.getD k noV)
      · rw [bB_yes q]
        have Q := Lib.hid (valid_next PV.out q)
        clear q
        go_wp2
        go_roundw
        case rel => exact ⟨k + 1, by omega, by go_num, Q.out, BN.out⟩
        case measure => simp [intOf]; omega
      · rw [bB_no q]
        have X := Lib.hid (fun h : R => q (XA.out.1 h k hlt))
        clear q
        go_wp2
        go_ret
        exact ⟨ret_no X.out, BN.out⟩
    · obtain rfl : k = n := by omega
      have X := Lib.hid (XA.out.2 PV.out)
      go_wp2
      go_ret
      exact ⟨ret_yes X.out, BW.out⟩
set_option maxHeartbeats 2000000 in
theorem implTotal (d : Nat) (l : List Vec) (a : Option Addr) (c lo hi : Nat) (w : World) (hP : VecsAt lo hi w d a l) (hhi : hi ≤ w.heap.size) (hsp : ∀ i, i < l.length → Small d (l.getD i noV)) (ll : l.length ≤ 1048576) (hv : AllV l) :
    Calls Tryd.prog 42 #[.slice a l.length c] w fun e w' => e = .returned (.int .i64 (totL l l.length)) ∧ Below w.heap.size w w' := by
  have HP := Lib.hid (fun (k : Nat) (hk : k < l.length) (w1 : World) (hb : Below w.heap.size w w1) => (hP.below hb hhi).at_ hk)
  have CI := Lib.hid (fun (k : Nat) (hk : k < l.length) (y : Value) (w1 : World) (h : VecAt lo hi w1 d (l.getD k noV) y) => implLenV d (l.getD k noV) y lo hi w1 h (hsp k hk))
  have TL := Lib.hid (fun (k : Nat) (hk : k ≤ l.length) => totL_le hv k hk)
  have LV := Lib.hid (fun (k : Nat) (hk : k < l.length) => valid_len (hv k hk))
  obtain ⟨n, hn⟩ : ∃ n, l.length = n := ⟨_, rfl⟩
  rw [hn] at HP CI TL LV ll ⊢
  clear hn hP hsp hv
  go_enter Tryd.func42, Tryd.ntmps42
  go_wp2
  go_loopw [8, 3] (fun i m wr => ∃ k : Nat, k ≤ n ∧ i = .int .i64 k ∧ m = .int .i64 (totL l k) ∧ Below w.heap.size w wr) (fun i _ _ => n - (intOf i).toNat)
  case atStart => exact ⟨0, Nat.zero_le _, rfl, rfl, Below.refl _ _⟩
  case round =>
    obtain ⟨k, hk, rfl, rfl, hbw⟩ := hrel
    have BW := Lib.hid hbw
    clear hbw
    by_cases hlt : k < n
    · obtain ⟨b, off, c0, c1, c2, c3, c4, c5, c6, c7, rfl, hb, hva, g0, g1, g2, g3, g4, g5, g6, g7⟩ := HP.out k hlt wr BW.out
      have hbr : b < wr.heap.size := by have := BW.out.size; omega
      have VA := Lib.hid (hva.below (below1 wr (.cells #[c0, c1, c2, c3, c4, c5, c6, c7] 31)) (by have := BW.out.size; omega))
      have B5 := Lib.hid (BW.out.alloc BW.out.size (.cells #[c0, c1, c2, c3, c4, c5, c6, c7] 31))
      obtain ⟨yk, ya1, yn1, ym1, ya2, yn2, ym2, ya3, yn3, ym3, ya4, yn4, ym4, ya5, yn5, ym5, yc, ye, e⟩ := hva.agg
      simp only [Value.agg.injEq, Array.mk.injEq, List.cons.injEq, and_true] at e
      obtain ⟨rfl, rfl, rfl, rfl, rfl, rfl, rfl, rfl⟩ := e
      clear hva
      have t1 := TL.out k (by omega)
      have t2 := LV.out k hlt
      have E := Lib.hid (show ((totL l (k + 1) : Nat) : Int) = (totL l k : Int) + (lengthV (l.getD k noV) : Int) from by show ((totL l k + lengthV (l.getD k noV) : Nat) : Int) = _; omega)
      have CK := Lib.hid (fun W y h => CI.out k hlt y W h)
      obtain ⟨x, hx⟩ : ∃ x, lengthV (l.getD k noV) = x := ⟨_, rfl⟩
      obtain ⟨z, hz⟩ : ∃ z, totL l k = z := ⟨_, rfl⟩
      rw [hx] at E t2 CK
      rw [hz] at E t1 ⊢
      clear hx hz
      go_wp2_with fail
      with_reducible refine (CK.out _ _ VA.out).mono ?_
      rintro e w' ⟨rfl, b'⟩
      have BN := Lib.hid (below_then B5.out b')
      clear b'
      go_wp2
      go_roundw
      case rel => exact ⟨k + 1, by omega, by go_num, by rw [E.out], BN.out⟩
      case measure => simp [intOf]; omega
    · obtain rfl : k = n := by omega
      go_wp2
      go_ret
      exact ⟨rfl, BW.out⟩
set_option maxHeartbeats 2000000 in
theorem implLatestL (d : Nat) (l : List Vec) (a : Option Addr) (c lo hi : Nat) (w : World) (hP : VecsAt lo hi w d a l) (hhi : hi ≤ w.heap.size) (hsp : ∀ i, i < l.length → Small d (l.getD i noV)) (ll : l.length ≤ 1048576) :
    Calls Tryd.prog 43 #[.slice a l.length c] w fun e w' => e = .returned (.int .i64 (latL l l.length)) ∧ Below w.heap.size w w' := by
  have HP := Lib.hid (fun (k : Nat) (hk : k < l.length) (w1 : World) (hb : Below w.heap.size w w1) => (hP.below hb hhi).at_ hk)
  obtain ⟨n, hn⟩ : ∃ n, l.length = n := ⟨_, rfl⟩
  rw [hn] at HP ll ⊢
  clear hn hP hsp
  go_enter Tryd.func43, Tryd.ntmps43
  go_wp2
  go_loopw [8, 3] (fun i m wr => ∃ k : Nat, k ≤ n ∧ i = .int .i64 k ∧ m = .int .i64 (latL l k) ∧ Below w.heap.size w wr) (fun i _ _ => n - (intOf i).toNat)
  case atStart => exact ⟨0, Nat.zero_le _, rfl, rfl, Below.refl _ _⟩
  case round =>
    obtain ⟨k, hk, rfl, rfl, hbw⟩ := hrel
    have BW := Lib.hid hbw
    clear hbw
    by_cases hlt : k < n
    · obtain ⟨b, off, c0, c1, c2, c3, c4, c5, c6, c7, rfl, hb, hva, g0, g1, g2, g3, g4, g5, g6, g7⟩ := HP.out k hlt wr BW.out
      have hbr : b < wr.heap.size := by have := BW.out.size; omega
      have E := Lib.hid (show latL l (k + 1) = max (latL l k) (min (kindV (l.getD k noV)) 4) from rfl)
      obtain ⟨p, hp⟩ : ∃ p, l.getD k noV = p := ⟨_, rfl⟩
      rw [hp] at E hva
      obtain ⟨kk, items, parts, names, cls, levels, code, env⟩ := p
      obtain ⟨d', ai, ci, ap, cp, an, cn, ac, cc, al, cl, ed, e, _⟩ := vecAt_open hva
      simp only [Value.agg.injEq, Array.mk.injEq, List.cons.injEq, and_true] at e
      obtain ⟨rfl, rfl, rfl, rfl, rfl, rfl, rfl, rfl⟩ := e
      have E2 := Lib.hid (show latL l (k + 1) = max (latL l k) (min kk 4) from E.out)
      obtain ⟨z, hz⟩ : ∃ z, latL l k = z := ⟨_, rfl⟩
      rw [hz] at E2 ⊢
      clear hva hp hz ed E
      go_wp2
      go_roundw
      case rel => exact ⟨k + 1, by omega, by go_num, by rw [E2.out]; try simp; try omega, BW.out.alloc BW.out.size _⟩
      case measure => simp [intOf]; omega
    · obtain rfl : k = n := by omega
      go_wp2
      go_ret
      exact ⟨rfl, BW.out⟩
end Go.Proofs.YtddebgmjolojeaaDoor

/- CoerceVector as data: what it answers is a vector. -/
namespace Go.Proofs.YtddebgmjolojeaaDoor
open Go.RowKit
set_option maxRecDepth 100000
set_option linter.unusedVariables false

/-- Can v be converted to the kind j? -/
def OkC (j : Int) (v : Vec) : Prop := ValidV v ∧ j ≤ 4 ∧ (kindV v ≤ j ∨ kindV v = 5) ∧ (kindV v = 5 → j = 4)
noncomputable def coeV (j : Int) (v : Vec) : Vec := match bB (OkC j v), bB (j = 4), v with
  | true, true, .mk kk items parts names cls levels code env => .mk 4 [] (elems (.mk kk items parts names cls levels code env)) names [] [] 0 0
  | true, false, .mk kk items _ names _ _ _ _ => mkN j (cnvL kk j items) names
  | false, _, _ => noV
noncomputable def coeB (j : Int) (v : Vec) : Bool := bB (OkC j v)
noncomputable def coeD (d : Nat) (j : Int) (v : Vec) : Nat := match bB (OkC j v), bB (j = 4) with
  | true, true => elmD d v + 1
  | true, false => 1
  | false, _ => 1
theorem coe_no {j : Int} {v : Vec} {d : Nat} (h : ¬ OkC j v) : coeV j v = noV ∧ coeB j v = false ∧ coeD d j v = 1 := by
  unfold coeV coeB coeD; rw [bB_no h]; exact ⟨rfl, rfl, rfl⟩
theorem coe_list {v : Vec} {d : Nat} {kk : Int} {items : List It} {parts : List Vec} {names cls levels : List ByteArray} {code env : Int} (e : v = .mk kk items parts names cls levels code env) (h : OkC 4 v) : coeV 4 v = .mk 4 [] (elems v) names [] [] 0 0 ∧ coeB 4 v = true ∧ coeD d 4 v = elmD d v + 1 := by
  subst e
  unfold coeV coeB coeD; rw [bB_yes h, bB_yes rfl]; exact ⟨rfl, rfl, rfl⟩
theorem coe_flat {v : Vec} {d : Nat} {j kk : Int} {items : List It} {parts : List Vec} {names cls levels : List ByteArray} {code env : Int} (e : v = .mk kk items parts names cls levels code env) (h : OkC j v) (h4 : ¬ j = 4) : coeV j v = mkN j (cnvL kk j items) names ∧ coeB j v = true ∧ coeD d j v = 1 := by
  subst e
  unfold coeV coeB coeD; rw [bB_yes h, bB_no h4]; exact ⟨rfl, rfl, rfl⟩
theorem lab0 (n : Nat) : LabelsOk (txtS []) ([] : List ByteArray).length n := ⟨Nat.zero_le _, fun i hi => absurd hi (Nat.not_lt_zero _)⟩
theorem sum_ones {f : Nat → Nat} : ∀ n, (∀ i, i < n → f i = 1) → sumN f n = n
  | 0, _ => rfl
  | n + 1, h => by
    show sumN f n + f n = n + 1
    rw [sum_ones n (fun i hi => h i (by omega)), h n (by omega)]
/-- A vector without parts is one at any depth. -/
theorem isV_flat {n : Nat} {v : Vec} (h : FlatV v) (h0 : (partsV v).length = 0) : IsV n v := by
  cases n with
  | zero => exact ⟨h, h0⟩
  | succ n => exact ⟨h, fun i hi => by omega⟩
theorem cells_flat {n : Nat} {v : Vec} (h0 : (partsV v).length = 0) : cellsV n v = lengthV v := by
  cases n with
  | zero => rfl
  | succ n =>
    obtain ⟨k, items, parts, names, cls, levels, code, env⟩ := v
    have hp : parts = [] := List.eq_nil_of_length_eq_zero h0
    subst hp
    show lengthV _ + sumN _ 0 = _
    simp [sumN]
theorem isV_one {kk : Int} {x : It} {n : Nat} (hk : 1 ≤ kk ∧ kk ≤ 3) (hx : ItOk kk x) : IsV n (vecOf kk [x]) ∧ cellsV n (vecOf kk [x]) = 1 := by
  have hf : FlatV (vecOf kk [x]) := by
    show FlatOk kk [x] 0 [] [] [] 0 0
    refine ⟨by omega, ?_, .inl rfl, ⟨fun i h => absurd h (Nat.not_lt_zero _), .inl rfl⟩, lab0 _, lab0 _, fun _ => ⟨rfl, rfl⟩, fun _ => rfl, fun _ => rfl, fun h => by omega, fun h => by omega, fun h => by omega, fun i hi => ?_⟩
    · unfold lenV; rw [if_neg (by omega)]; simp only [List.length_cons, List.length_nil]; omega
    · obtain rfl : i = 0 := by simpa using hi
      exact ⟨hx, .inl rfl⟩
  refine ⟨isV_flat hf rfl, ?_⟩
  rw [cells_flat rfl]
  show lenV kk 1 0 = 1
  unfold lenV; rw [if_neg (by omega)]
theorem coe_valid {j : Int} {v : Vec} (h : OkC j v) : ValidV (coeV j v) := by
  obtain ⟨kk, items, parts, names, cls, levels, code, env⟩ := v
  obtain ⟨hv, h1, h2, h3⟩ := id h
  have hf : FlatOk kk items parts.length names cls levels code env := hv.1.flat
  have hc := hv.2
  have hkk : 0 ≤ kk ∧ kk ≤ 5 := hf.h_kind
  have h2' : kk ≤ j ∨ kk = 5 := h2
  have h3' : kk = 5 → j = 4 := h3
  by_cases h4 : j = 4
  · subst h4
    rw [(coe_list (d := 0) rfl h).1]
    by_cases h5 : kk = 5
    · subst h5
      rw [elems_fun rfl]
      obtain ⟨q1, q2, _⟩ := hf.h_func rfl
      have q3 := hf.h_noParts (by decide)
      have hfl : FlatV (.mk 4 [] [.mk 5 items parts names cls levels code env] names [] [] 0 0) := by
        show FlatOk 4 [] 1 names [] [] 0 0
        refine ⟨by omega, by decide, .inl q2, hf.h_named, lab0 _, lab0 _, fun _ => ⟨rfl, rfl⟩, fun _ => rfl, fun h => absurd rfl h, fun h => by omega, fun h => by omega, fun _ => rfl, fun i hi => absurd hi (Nat.not_lt_zero _)⟩
      refine ⟨⟨hfl, fun i hi => ?_⟩, ?_⟩
      · obtain rfl : i = 0 := by have : i < 1 := hi; omega
        exact isV_flat hv.1.flat q3
      · show lenV 4 0 1 + (0 + cellsV 2 (.mk 5 items parts names cls levels code env)) ≤ 200
        rw [cells_flat (show (partsV (.mk 5 items parts names cls levels code env)).length = 0 from q3)]
        show lenV 4 0 1 + (0 + lenV 5 items.length parts.length) ≤ 200
        have e1 : lenV 4 0 1 = 1 := rfl
        have e2 : lenV 5 items.length parts.length = 1 := rfl
        omega
    · by_cases h44 : kk = 4
      · subst h44
        rw [elems_list]
        have q := hf.h_list rfl
        have qi : items = [] := List.eq_nil_of_length_eq_zero q
        subst qi
        have hfl : FlatV (.mk 4 [] parts names [] [] 0 0) := by
          show FlatOk 4 [] parts.length names [] [] 0 0
          exact ⟨by omega, hf.h_len, hf.h_names, hf.h_named, lab0 _, lab0 _, fun _ => ⟨rfl, rfl⟩, fun _ => rfl, fun h => absurd rfl h, fun h => by omega, fun h => by omega, fun _ => rfl, fun i hi => absurd hi (Nat.not_lt_zero _)⟩
        exact ⟨⟨hfl, hv.1.2⟩, hc⟩
      · rw [elems_items h5 h44]
        have hl := hf.h_len
        have hn := hf.h_names
        have q3 := hf.h_noParts h44
        unfold lenV at hl hn
        rw [if_neg h5] at hl hn
        have hlen : (items.map (fun x => vecOf kk [x])).length = items.length := List.length_map ..
        have hg : ∀ i, i < items.length → (items.map (fun x => vecOf kk [x])).getD i noV = vecOf kk [items.getD i noI] := fun i hi => by simp [List.getD_eq_getElem?_getD, hi]
        have h0 : 0 < items.length → 1 ≤ kk := fun hp => by
          by_cases hz : kk = 0
          · have := (hf.h_null hz).1; omega
          · omega
        have hfl : FlatV (.mk 4 [] (items.map (fun x => vecOf kk [x])) names [] [] 0 0) := by
          show FlatOk 4 [] (items.map (fun x => vecOf kk [x])).length names [] [] 0 0
          rw [hlen]
          refine ⟨by omega, ?_, ?_, hf.h_named, lab0 _, lab0 _, fun _ => ⟨rfl, rfl⟩, fun _ => rfl, fun h => absurd rfl h, fun h => by omega, fun h => by omega, fun _ => rfl, fun i hi => absurd hi (Nat.not_lt_zero _)⟩
          · unfold lenV; rw [if_neg (by decide)]; simp only [List.length_nil]; omega
          · unfold lenV; rw [if_neg (by decide)]; simp only [List.length_nil]; omega
        have hone : ∀ i, i < items.length → IsV 2 (vecOf kk [items.getD i noI]) ∧ cellsV 2 (vecOf kk [items.getD i noI]) = 1 := fun i hi => isV_one ⟨h0 (by omega), by omega⟩ (hf.h_items i hi).1
        refine ⟨⟨hfl, fun i hi => ?_⟩, ?_⟩
        · have hi' : i < items.length := by have : i < (items.map (fun x => vecOf kk [x])).length := hi; omega
          show IsV 2 ((items.map (fun x => vecOf kk [x])).getD i noV)
          rw [hg i hi']
          exact (hone i hi').1
        · show lenV 4 0 (items.map (fun x => vecOf kk [x])).length + sumN (fun i => cellsV 2 ((items.map (fun x => vecOf kk [x])).getD i noV)) (items.map (fun x => vecOf kk [x])).length ≤ 200
          rw [hlen, sum_ones items.length (fun i hi => by rw [hg i hi]; exact (hone i hi).2)]
          unfold lenV; rw [if_neg (by decide)]; omega
  · rw [(coe_flat (d := 0) rfl h h4).1]
    have h5 : ¬ kk = 5 := fun e => h4 (h3' e)
    have hkj : kk ≤ j := h2'.resolve_right h5
    have hl := hf.h_len
    have hn := hf.h_names
    have q3 := hf.h_noParts (by omega)
    unfold lenV at hl hn
    rw [if_neg h5] at hl hn
    have hcl : (cnvL kk j items).length = items.length := cnvL_len _ _ _
    have e5 : lenV j (cnvL kk j items).length 0 = items.length := by unfold lenV; rw [if_neg (by omega), hcl]; rfl
    have hfl : FlatV (mkN j (cnvL kk j items) names) := by
      show FlatOk j (cnvL kk j items) 0 names [] [] 0 0
      refine ⟨by omega, by rw [e5]; omega, by rw [e5]; omega, hf.h_named, lab0 _, lab0 _, fun _ => ⟨rfl, rfl⟩, fun _ => rfl, fun _ => rfl, fun h => by omega, fun h => ?_, fun h => absurd h h4, fun i hi => ?_⟩
      · have := (hf.h_null (by omega)).1
        exact ⟨by rw [hcl]; omega, rfl⟩
      · rw [hcl] at hi
        rw [cnvL_at hi]
        exact ⟨cnv_ok (hf.h_items i hi).1 hkj (by omega), .inl rfl⟩
    refine ⟨isV_flat hfl rfl, ?_⟩
    rw [cells_flat rfl]
    show lenV j (cnvL kk j items).length 0 ≤ 200
    omega
end Go.Proofs.YtddebgmjolojeaaDoor

/- CombineVectors as data. -/
namespace Go.Proofs.YtddebgmjolojeaaDoor
open Go.RowKit
set_option maxRecDepth 100000
set_option linter.unusedVariables false

/-- "invalid labels" -/
def labB : ByteArray := ⟨#[105, 110, 118, 97, 108, 105, 100, 32, 108, 97, 98, 101, 108, 115]⟩
def itmV (v : Vec) : List It := match v with | .mk _ items _ _ _ _ _ _ => items
def nmsV (v : Vec) : List ByteArray := match v with | .mk _ _ _ names _ _ _ _ => names
/-- The names that a part's elements have in the whole. -/
def cmN (label : ByteArray) (p : Vec) : Nat → List ByteArray
  | 0 => []
  | k + 1 => cmN label p k ++ [cmbN label (nmA (nmsV p) k) (lengthV p) k]
theorem cmN_len (label : ByteArray) (p : Vec) : ∀ k, (cmN label p k).length = k
  | 0 => rfl
  | k + 1 => by show (cmN label p k ++ [_]).length = k + 1; rw [List.length_append, cmN_len label p k]; rfl
/-- Items, parts and names of the first k parts, of kind j. -/
noncomputable def cmI (j : Int) (l : List Vec) : Nat → List It
  | 0 => []
  | k + 1 => cmI j l k ++ itmV (coeV j (l.getD k noV))
noncomputable def cmP (j : Int) (l : List Vec) : Nat → List Vec
  | 0 => []
  | k + 1 => cmP j l k ++ partsV (coeV j (l.getD k noV))
def cmT (l : List Vec) (N : List ByteArray) : Nat → List ByteArray
  | 0 => []
  | k + 1 => cmT l N k ++ cmN (nmA N k) (l.getD k noV) (lengthV (l.getD k noV))
def cmK (l : List Vec) : Int := latL l l.length
noncomputable def cmR (l : List Vec) (N : List ByteArray) : Vec := .mk (cmK l) (cmI (cmK l) l l.length) (cmP (cmK l) l l.length) (clnN (cmT l N l.length)) [] [] 0 0
/-- Do the labels go with the list? -/
def LabOk (l : List Vec) (N : List ByteArray) : Prop := N.length = 0 ∨ N.length = l.length
noncomputable def cmV (l : List Vec) (N : List ByteArray) : Vec := match bB (AllV l ∧ LabOk l N ∧ totL l l.length ≤ 40 ∧ ValidV (cmR l N)) with | true => cmR l N | false => noV
noncomputable def cmS (l : List Vec) (N : List ByteArray) : ByteArray := match bB (AllV l), bB (LabOk l N), bB (totL l l.length ≤ 40 ∧ ValidV (cmR l N)) with
  | false, _, _ => badB
  | true, false, _ => labB
  | true, true, false => bigB
  | true, true, true => ⟨#[]⟩
theorem cm_bad {l : List Vec} {N : List ByteArray} (h : ¬ AllV l) : cmV l N = noV ∧ cmS l N = badB := by
  have b : ¬ (AllV l ∧ LabOk l N ∧ totL l l.length ≤ 40 ∧ ValidV (cmR l N)) := fun q => h q.1
  unfold cmV cmS; rw [bB_no h, bB_no b]; exact ⟨rfl, rfl⟩
theorem cm_lab {l : List Vec} {N : List ByteArray} (h : AllV l) (hl : ¬ LabOk l N) : cmV l N = noV ∧ cmS l N = labB := by
  have b : ¬ (AllV l ∧ LabOk l N ∧ totL l l.length ≤ 40 ∧ ValidV (cmR l N)) := fun q => hl q.2.1
  unfold cmV cmS; rw [bB_yes h, bB_no hl, bB_no b]; exact ⟨rfl, rfl⟩
theorem cm_big {l : List Vec} {N : List ByteArray} (h : AllV l) (hl : LabOk l N) (hb : ¬ totL l l.length ≤ 40) : cmV l N = noV ∧ cmS l N = bigB := by
  have a : ¬ (totL l l.length ≤ 40 ∧ ValidV (cmR l N)) := fun q => hb q.1
  have b : ¬ (AllV l ∧ LabOk l N ∧ totL l l.length ≤ 40 ∧ ValidV (cmR l N)) := fun q => hb q.2.2.1
  unfold cmV cmS; rw [bB_yes h, bB_yes hl, bB_no a, bB_no b]; exact ⟨rfl, rfl⟩
theorem cm_no {l : List Vec} {N : List ByteArray} (h : AllV l) (hl : LabOk l N) (hv : ¬ ValidV (cmR l N)) : cmV l N = noV ∧ cmS l N = bigB := by
  have a : ¬ (totL l l.length ≤ 40 ∧ ValidV (cmR l N)) := fun q => hv q.2
  have b : ¬ (AllV l ∧ LabOk l N ∧ totL l l.length ≤ 40 ∧ ValidV (cmR l N)) := fun q => hv q.2.2.2
  unfold cmV cmS; rw [bB_yes h, bB_yes hl, bB_no a, bB_no b]; exact ⟨rfl, rfl⟩
theorem cm_yes {l : List Vec} {N : List ByteArray} (h : AllV l) (hl : LabOk l N) (hb : totL l l.length ≤ 40) (hv : ValidV (cmR l N)) : cmV l N = cmR l N ∧ cmS l N = ⟨#[]⟩ := by
  have a : totL l l.length ≤ 40 ∧ ValidV (cmR l N) := ⟨hb, hv⟩
  have b : AllV l ∧ LabOk l N ∧ totL l l.length ≤ 40 ∧ ValidV (cmR l N) := ⟨h, hl, hb, hv⟩
  unfold cmV cmS; rw [bB_yes h, bB_yes hl, bB_yes a, bB_yes b]; exact ⟨rfl, rfl⟩
theorem valid_kind {v : Vec} (h : ValidV v) : 0 ≤ kindV v ∧ kindV v ≤ 5 := by
  obtain ⟨kk, items, parts, names, cls, levels, code, env⟩ := v
  have hf : FlatOk kk items parts.length names cls levels code env := h.1.flat
  exact hf.h_kind
/-- Every part of valid vectors can be converted to the latest kind. -/
theorem cm_ok {l : List Vec} (h : AllV l) {i : Nat} (hi : i < l.length) : OkC (cmK l) (l.getD i noV) := by
  have hk : ∀ i, i < l.length → 0 ≤ kindV (l.getD i noV) ∧ kindV (l.getD i noV) ≤ 5 := fun i hi => valid_kind (h i hi)
  have h1 := latL_in l (fun i hi => (hk i hi).1) l.length (Nat.le_refl _)
  have h2 := latL_ge l l.length i hi
  have h3 := hk i hi
  unfold cmK
  exact ⟨h i hi, h1.2, by omega, fun e => by omega⟩
/-- What a part's conversion keeps: its length and its names. -/
theorem coe_same {j : Int} {v : Vec} (h : OkC j v) : lengthV (coeV j v) = lengthV v ∧ nmsV (coeV j v) = nmsV v := by
  obtain ⟨kk, items, parts, names, cls, levels, code, env⟩ := v
  have hf : FlatOk kk items parts.length names cls levels code env := h.1.1.flat
  have h2 : kk ≤ j ∨ kk = 5 := h.2.2.1
  have h3 : kk = 5 → j = 4 := h.2.2.2
  by_cases h4 : j = 4
  · subst h4
    rw [(coe_list (d := 0) rfl h).1]
    refine ⟨?_, rfl⟩
    show lenV 4 0 (elems _).length = lenV kk items.length parts.length
    by_cases h5 : kk = 5
    · subst h5
      rw [elems_fun rfl]
      rfl
    · by_cases h44 : kk = 4
      · subst h44
        have e := hf.h_list rfl
        rw [elems_list]
        unfold lenV
        rw [if_neg (by decide), if_neg (by decide)]
        omega
      · have e := hf.h_noParts h44
        rw [elems_items h5 h44, List.length_map]
        unfold lenV
        rw [if_neg (by decide), if_neg h5]
        omega
  · rw [(coe_flat (d := 0) rfl h h4).1]
    refine ⟨?_, rfl⟩
    have h5 : ¬ kk = 5 := fun e => h4 (h3 e)
    have e := hf.h_noParts (by have := h.2.1; omega)
    show lenV j (cnvL kk j items).length 0 = lenV kk items.length parts.length
    rw [cnvL_len]
    unfold lenV
    rw [if_neg (by have := h.2.1; omega), if_neg h5]
    omega
end Go.Proofs.YtddebgmjolojeaaDoor

/- The parts of a vector that a call has made, as what is appended to another row. -/
namespace Go.Proofs.YtddebgmjolojeaaDoor
open Go.RowKit
set_option maxRecDepth 100000
set_option linter.unusedVariables false

/-- The values of a row's elements, the blocks of each, and where its cells lie. -/
structure PartsO (w : World) (d : Nat) (Q : List Vec) (a : Option Addr) (lo hi : Nat) (vals : List Value) (Fs : List (List Nat)) : Prop where
  len : vals.length = Q.length
  lenF : Fs.length = Q.length
  own : ∀ i, i < Q.length → OwnVec w d (Q.getD i noV) (vals.getD i undef) (Fs.getD i [])
  nd : Fs.flatten.Nodup
  rg : ∀ g ∈ Fs.flatten, lo ≤ g ∧ g < hi
  cells : 0 < Q.length → ∃ ad, a = some ad ∧ ∀ j u, (vals.flatMap cl8)[j]? = some u → w.cell? (ad.add j) = some u
theorem Own.parts {w : World} {d lo hi : Nat} {k : Int} {items : List It} {Q : List Vec} {names cls lev : List ByteArray} {code env : Int} {c0 c1 c3 c4 c5 c6 c7 : Value} {a : Option Addr} {n c : Nat}
    (h : Own (d + 1) (.mk k items Q names cls lev code env) (.agg #[c0, c1, .slice a n c, c3, c4, c5, c6, c7]) lo hi w) : ∃ vals Fs, PartsO w d Q a lo hi vals Fs := by
  obtain ⟨F, ho, hnd, hF⟩ := h.out
  unfold OwnVec at ho
  obtain ⟨ai, ci, ap, cp, an, cn, ac, cc, al, cl, Fi, Fp, Fn, Fc, Fl, e, eF, hcap, hI, hN, hC, hL, hP⟩ := ho
  simp only [Value.agg.injEq, Array.mk.injEq, List.cons.injEq, and_true, Value.slice.injEq] at e
  obtain ⟨_, _, ⟨rfl, rfl, rfl⟩, _⟩ := e
  rcases hP with ⟨rfl, rfl⟩ | ⟨b, C, Fs, e1, hl, e2, hb, hC', hp⟩
  · exact ⟨[], [], rfl, rfl, (fun i hi => absurd hi (Nat.not_lt_zero _)), List.nodup_nil, (fun _ h => by cases h), fun h => absurd h (Nat.lt_irrefl _)⟩
  · have hch : ∀ i, ∃ val, i < Q.length → OwnVec w d (Q.getD i noV) val (Fs.getD i []) ∧ Eight C i val := fun i => by
      by_cases hi : i < Q.length
      · obtain ⟨val, h1, h2⟩ := hp i hi
        exact ⟨val, fun _ => ⟨h1, h2⟩⟩
      · exact ⟨undef, fun h => absurd h hi⟩
    obtain ⟨f, hf⟩ := Classical.axiomOfChoice hch
    have hvl : ((List.range Q.length).map f).length = Q.length := by simp
    have hva : ∀ i, i < Q.length → ((List.range Q.length).map f).getD i undef = f i := fun i hi => by simp [List.getD_eq_getElem?_getD, hi]
    have h8 : ∀ u ∈ (List.range Q.length).map f, Is8 u := fun u hu => by
      obtain ⟨i, hi, rfl⟩ := List.mem_map.1 hu
      exact (hf i (List.mem_range.1 hi)).1.is8
    have hsub : ∀ g ∈ Fs.flatten, g ∈ F := fun g hg => by rw [eF, e1]; simp [hg]
    have hnd2 : Fs.flatten.Nodup := by
      rw [eF, e1] at hnd
      have h1 := (List.nodup_append.1 hnd).2.1
      have h2 := (List.nodup_append.1 h1).1
      exact (List.nodup_cons.1 h2).2
    refine ⟨(List.range Q.length).map f, Fs, hvl, hl, fun i hi => by rw [hva i hi]; exact (hf i hi).1, hnd2, fun g hg => hF g (hsub g hg), fun h0 => ⟨_, e2, fun j u hj => ?_⟩⟩
    have hlt := (List.getElem?_eq_some_iff.1 hj).1
    have hfl := flat8_len _ h8
    rw [hvl] at hfl
    rw [addr_add, Nat.zero_add]
    refine cellOf hb ?_
    have hq : j < Q.length * 8 := by omega
    have hi : j / 8 < Q.length := by omega
    obtain ⟨c0, c1, c2, c3, c4, c5, c6, c7, e, m0, m1, m2, m3, m4, m5, m6, m7⟩ := flat8_at _ h8 (j / 8) (by rw [hvl]; exact hi)
    obtain ⟨d0, d1, d2, d3, d4, d5, d6, d7, e', n0, n1, n2, n3, n4, n5, n6, n7⟩ := (hf _ hi).2
    rw [hva _ hi, e'] at e
    simp only [Value.agg.injEq, Array.mk.injEq, List.cons.injEq, and_true] at e
    obtain ⟨rfl, rfl, rfl, rfl, rfl, rfl, rfl, rfl⟩ := e
    rw [← hj]
    rcases (show j = j / 8 * 8 ∨ j = j / 8 * 8 + 1 ∨ j = j / 8 * 8 + 2 ∨ j = j / 8 * 8 + 3 ∨ j = j / 8 * 8 + 4 ∨ j = j / 8 * 8 + 5 ∨ j = j / 8 * 8 + 6 ∨ j = j / 8 * 8 + 7 by omega) with hq' | hq' | hq' | hq' | hq' | hq' | hq' | hq'
    · rw [hq', n0, m0]
    · rw [hq', n1, m1]
    · rw [hq', n2, m2]
    · rw [hq', n3, m3]
    · rw [hq', n4, m4]
    · rw [hq', n5, m5]
    · rw [hq', n6, m6]
    · rw [hq', n7, m7]
/-- The parts at a greater depth. -/
theorem PartsO.le {w : World} {d d' : Nat} (h : d ≤ d') {Q : List Vec} {a : Option Addr} {lo hi : Nat} {vals : List Value} {Fs : List (List Nat)} (p : PartsO w d Q a lo hi vals Fs) : PartsO w d' Q a lo hi vals Fs := by
  refine ⟨p.len, p.lenF, fun i hi => ?_, p.nd, p.rg, p.cells⟩
  have ho := p.own i hi
  clear p
  induction h with
  | refl => exact ho
  | step _ ih => exact OwnVec.more _ _ _ _ ih
/-- Parts appended whose blocks lie anywhere behind lo, apart from all that the vector owns. -/
theorem Und.appQ {lo : Nat} {w1 w2 : World} {d : Nat} {items : List It} {parts Q : List Vec} {names cls lev : List ByteArray} {vi vp vn vc vl v' : Value} {X X7 : List Nat} {vals vals2 : List Value} {Fs Fs2 : List (List Nat)} (h : Und lo w1 d items parts names cls lev vi vp vn vc vl X)
    (h1 : vals.length = parts.length) (h2 : Fs.length = parts.length) (h4 : ∀ i, i < parts.length → OwnVec w1 d (parts.getD i noV) (vals.getD i undef) (Fs.getD i [])) (h5 : Fs.flatten = X)
    (g1 : vals2.length = Q.length) (g2 : Fs2.length = Q.length) (g4 : ∀ i, i < Q.length → OwnVec w1 d (Q.getD i noV) (vals2.getD i undef) (Fs2.getD i [])) (g5 : Fs2.flatten = X7) (n7 : X7.Nodup) (r7 : ∀ g ∈ X7, lo ≤ g ∧ g < w1.heap.size)
    (dj : ∀ g ∈ X7, g ∉ X) (oi : Off vi X7) (op : Off vp X7) (on : Off vn X7) (oc : Off vc X7) (ol : Off vl X7)
    (hr : w2.ownsRow lo 31 8 v' (parts.length + Q.length) (vals.flatMap cl8 ++ vals2.flatMap cl8)) (hm : Moved w1 vp v') (hk : ∀ g, lo ≤ g → g < w1.heap.size → vp.ownBlock ≠ some g → w2.heap[g]? = w1.heap[g]?) (hs : w1.heap.size ≤ w2.heap.size) :
    Und lo w2 d items (parts ++ Q) names cls lev vi v' vn vc vl (X ++ X7) := by
  subst h5
  subst g5
  have hXk : ∀ g ∈ Fs.flatten, w2.heap[g]? = w1.heap[g]? := fun g hg => hk g (h.rg g hg).1 (h.rg g hg).2 (fun e => h.off.2.1 g e hg)
  have hR := RowX.appX h1 h2 h4 g1 g2 (fun i hi => (g4 i hi).kept _ _ _ _ (fun g hg => by have hm := mem_flat (by omega) hg; exact hk g (r7 g hm).1 (r7 g hm).2 (fun e => op g e hm))) hr hXk
  have F : ∀ {v : Value}, Off v Fs.flatten → Off v Fs2.flatten → Off v (Fs.flatten ++ Fs2.flatten) := fun ha hb g hg hx => by
    rcases List.mem_append.1 hx with h' | h'
    · exact ha g hg h'
    · exact hb g hg h'
  have hX : ∀ g ∈ Fs.flatten ++ Fs2.flatten, lo ≤ g ∧ g < w1.heap.size := fun g hg => by
    rcases List.mem_append.1 hg with h' | h'
    · exact h.rg g h'
    · exact r7 g h'
  have hnd : (Fs.flatten ++ Fs2.flatten).Nodup := by
    rw [List.nodup_append]
    exact ⟨h.nd, n7, fun a ha b hb e => dj b hb (e ▸ ha)⟩
  have hp : Off v' (Fs.flatten ++ Fs2.flatten) := (F h.off.2.1 op).moved hm (fun g hg => (hX g hg).2)
  exact ⟨ownsRow_kept h.i (fun g hg => hk g (h.i.lt g hg).1 (h.i.lt g hg).2 (fun e => h.two.1.1.symm g e hg)), hR, ownsRow_kept h.n (fun g hg => hk g (h.n.lt g hg).1 (h.n.lt g hg).2 (fun e => h.two.2.1.1 g e hg)), ownsRow_kept h.c (fun g hg => hk g (h.c.lt g hg).1 (h.c.lt g hg).2 (fun e => h.two.2.1.2.1 g e hg)), ownsRow_kept h.l (fun g hg => hk g (h.l.lt g hg).1 (h.l.lt g hg).2 (fun e => h.two.2.1.2.2 g e hg)), hnd, fun g hg => ⟨(hX g hg).1, Nat.lt_of_lt_of_le (hX g hg).2 hs⟩, ⟨⟨(h.two.1.1.symm.moved hm (row_below h.i)).symm, h.two.1.2.1, h.two.1.2.2.1, h.two.1.2.2.2⟩, ⟨(h.two.2.1.1.moved hm (row_below h.n)), (h.two.2.1.2.1.moved hm (row_below h.c)), (h.two.2.1.2.2.moved hm (row_below h.l))⟩, ⟨h.two.2.2.1.1, h.two.2.2.1.2⟩, h.two.2.2.2⟩, ⟨F h.off.1 oi, hp, F h.off.2.2.1 on, F h.off.2.2.2.1 oc, F h.off.2.2.2.2 ol⟩⟩
end Go.Proofs.YtddebgmjolojeaaDoor

/- plainVector and convertVector of the program. -/
namespace Go.Proofs.YtddebgmjolojeaaDoor
open Go.RowKit
set_option maxRecDepth 100000
set_option linter.unusedVariables false

theorem ResV.up {d : Nat} {V : Vec} {w W0 : World} {e : Ending} {w' : World} (h : ResV d V W0 e w') (b : Below w.heap.size w W0) : ResV d V w e w' := by
  obtain ⟨y, e1, ho, hb⟩ := h
  exact ⟨y, e1, ho.wide b.size (Nat.le_refl _), below_then b hb⟩
set_option maxHeartbeats 8000000 in
theorem implConv (d : Nat) (kk j : Int) (items : List It) (parts : List Vec) (names cls levels : List ByteArray) (code env : Int) (val : Value) (lo hi : Nat) (w : World) (hv : VecAt lo hi w d (.mk kk items parts names cls levels code env) val) (hhi : hi ≤ w.heap.size) (hk0 : 0 ≤ kk) (hkj : kk ≤ j) (hj : j ≤ 3) (li : items.length ≤ 40) (ln : names.length ≤ 1048576) (hit : ∀ i, i < items.length → ItOk kk (items.getD i noI)) (tab : Lib.TabIs Tryd.prog w "internal/strconv.uint64pow10" .u64 Lib.pow10Tab) :
    Calls Tryd.prog 44 #[val, .int .i64 j] w (ResV 1 (mkN j (cnvL kk j items) names) w) := by
  obtain ⟨d', ai, ci, ap, cp, an, cn, ac, cc, al, cl, ed, rfl, hI, hN, hC, hL, hP⟩ := vecAt_open hv
  have AI := Lib.hid (fun (k : Nat) (w1 : World) (hk : k < items.length) (hb : Below w.heap.size w w1) => (hI.below hb hhi).at_ hk)
  have CI := Lib.hid (fun (k : Nat) (W : World) (hk : k < items.length) (hb : Below w.heap.size w W) => implCnv kk j (items.getD k noI) W (hit k hk) hk0 hkj hj (tab_below tab hb))
  have CC := Lib.hid (fun (w1 : World) (hb : Below w.heap.size w w1) => implCopyAny names an cn lo hi w1 (hN.below hb hhi) ln)
  have EV := Lib.hid (show mkN j (cnvL kk j items) names = mkN j (itF (fun i => cnvI kk j (items.getD i noI)) items.length) names from rfl)
  obtain ⟨R, hR⟩ : ∃ R, mkN j (cnvL kk j items) names = R := ⟨_, rfl⟩
  rw [hR] at EV ⊢
  have hj4 : (j == 4) = false := by simp only [beq_eq_false_iff_ne, ne_eq]; omega
  clear hv hI hN hC hL hP ed hR hk0 hkj hit tab
  obtain ⟨W0, hW0⟩ : ∃ W, w.alloc (.cells #[.int .i64 kk, .slice ai items.length ci, .slice ap parts.length cp, .slice an names.length cn, .slice ac cls.length cc, .slice al levels.length cl, .int .i64 code, .int .i64 env] 31) = W := ⟨_, rfl⟩
  have BW0 := Lib.hid (show Below w.heap.size w W0 from hW0 ▸ below1 w _)
  have SW0 := Lib.hid (show W0.heap.size = w.heap.size + 1 by rw [← hW0]; simp)
  have KARG0 := Lib.hid (show W0.heap[w.heap.size]? = some (.cells #[.int .i64 kk, .slice ai items.length ci, .slice ap parts.length cp, .slice an names.length cn, .slice ac cls.length cc, .slice al levels.length cl, .int .i64 code, .int .i64 env] 31 (0, 0)) from hW0 ▸ blk_new w _ rfl)
  have EW := Lib.hid hW0
  clear hW0
  obtain ⟨n, hn⟩ : ∃ n, items.length = n := ⟨_, rfl⟩
  rw [hn] at AI CI KARG0 EW EV li ⊢
  clear hn
  go_enter Tryd.func44, Tryd.ntmps44
  go_wp2_with fail
  rw [EW.out]
  obtain ⟨w1, hw1⟩ : ∃ W, W0.alloc (.cells #[.int .i64 0, .slice none 0 0, .slice none 0 0, .slice none 0 0, .slice none 0 0, .slice none 0 0, .int .i64 0, .int .i64 0] 31) = W := ⟨_, rfl⟩
  have B1 := Lib.hid (show Below W0.heap.size W0 w1 from hw1 ▸ below1 W0 _)
  have KZ1 := Lib.hid (show w1.heap[W0.heap.size]? = some (.cells #[.int .i64 0, .slice none 0 0, .slice none 0 0, .slice none 0 0, .slice none 0 0, .slice none 0 0, .int .i64 0, .int .i64 0] 31 (0, 0)) from hw1 ▸ blk_new W0 _ rfl)
  have S1 : w1.heap.size = W0.heap.size + 1 := by rw [← hw1]; simp
  rw [hw1]
  clear hw1
  with_reducible refine (CC.out _ (below_then BW0.out B1.out)).mono ?_
  rintro e w4 ⟨v, rfl, ⟨na, nc, F, rfl, hT, hnd, hr, hcap⟩, b⟩
  have B4 := Lib.hid (below_then B1.out b)
  have KZ4 := Lib.hid (blk_below b KZ1.out)
  have KARG4 := Lib.hid (blk_below B4.out KARG0.out)
  have S4 := b.size
  have ST := Lib.hid (show AppN W0 (w4.alloc (.cells #[.int .i64 j, .slice none 0 0, .slice none 0 0, .slice na names.length nc, .slice none 0 0, .slice none 0 0, .int .i64 0, .int .i64 0] 31)) W0.heap.size w4.heap.size j (itF (fun i => cnvI kk j (items.getD i noI)) 0) none 0 0 names na nc F from
    ⟨blk_old KZ4.out, blk_new w4 _ rfl, ⟨rfl, .inl ⟨rfl, rfl⟩⟩, hT.kept (fun g hg => (below1 w4 _).block g (hr g hg).2), hcap, hnd, (fun g hg => by have h1 := hr g hg; omega), B4.out.alloc B4.out.size _, Nat.le_refl _, by omega⟩)
  clear b hT hnd hr hcap S4 S1
  have hltA := (Array.getElem?_eq_some_iff.1 KARG4.out).1
  obtain ⟨k0, k1, k2, k3, k4, k5, k6, k7⟩ := vec8 KARG4.out
  go_wp2
  rw [← SW0.out]
  clear k0 k1 k2 k3 k4 k5 k6 k7 hltA
  obtain ⟨r, hr⟩ : ∃ r, W0.heap.size = r := ⟨_, rfl⟩
  rw [hr] at ST ⊢
  obtain ⟨b, hb⟩ : ∃ b, w4.heap.size = b := ⟨_, rfl⟩
  rw [hb] at ST ⊢
  clear hr hb EW
  go_loopw [22] (fun i wr => ∃ (k : Nat) (sa : Option Addr) (sn sc : Nat), k ≤ n ∧ i = .int .i64 k ∧ AppN W0 wr r b j (itF (fun i => cnvI kk j (items.getD i noI)) k) sa sn sc names na nc F) (fun i _ => n - (intOf i).toNat)
  case atStart => exact ⟨0, none, 0, 0, Nat.zero_le _, rfl, ST.out⟩
  case round =>
    obtain ⟨k, sa, sn, sc, hk, rfl, hap⟩ := hrel
    have AP := Lib.hid hap
    clear hap
    by_cases hlt : k < n
    · obtain ⟨ba, off, rfl, hbB, c0, c1, c2⟩ := AI.out _ _ hlt (below_then BW0.out AP.out.below)
      have CK := Lib.hid (fun W hb => CI.out k W hlt hb)
      have NX := Lib.hid (itF_succ (fun i => cnvI kk j (items.getD i noI)) k)
      obtain ⟨z, hz⟩ : ∃ z : It, cnvI kk j (items.getD k noI) = z := ⟨_, rfl⟩
      rw [hz] at CK NX
      change wr.cell? _ = some (.string (items.getD k noI).t) at c2
      obtain ⟨x, hx⟩ : ∃ x : It, items.getD k noI = x := ⟨_, rfl⟩
      rw [hx] at c0 c1 c2 CK
      have LN := Lib.hid (show (itF (fun i => cnvI kk j (items.getD i noI)) k).length ≤ 1048576 by rw [itF_len]; omega)
      have hbw : ba < wr.heap.size := Nat.lt_of_lt_of_le (Nat.lt_of_lt_of_le hbB hhi) (below_then BW0.out AP.out.below).size
      have FAR := Lib.hid (fun (C : Array Value) (q : Nat × TypeId × Array Value) (hq : q ∈ (wr.heap.size, 67, C) :: (w.heap.size, 31, #[.int .i64 kk, .slice (some ⟨ba, off, none⟩) n ci, .slice ap parts.length cp, .slice an names.length cn, .slice ac cls.length cc, .slice al levels.length cl, .int .i64 code, .int .i64 env]) :: [(r, 31, #[.int .i64 0, .slice none 0 0, .slice none 0 0, .slice none 0 0, .slice none 0 0, .slice none 0 0, .int .i64 0, .int .i64 0]), (b, 31, #[.int .i64 j, .slice sa sn sc, .slice none 0 0, .slice na names.length nc, .slice none 0 0, .slice none 0 0, .int .i64 0, .int .i64 0])]) (j : Nat) (hj : (Value.slice sa sn sc).ownBlock = some j) => (by
        rcases List.mem_cons.1 hq with rfl | hq
        · exact AP.out.far (C := C) (List.Mem.head _) j hj
        rcases List.mem_cons.1 hq with rfl | hq
        · have := (AP.out.row.lt j hj).1; have := AP.out.o1; have := AP.out.o2; have := SW0.out; simp only; omega
        · exact AP.out.far (C := C) (List.Mem.tail _ hq) j hj : q.1 ≠ j))
      have W0L := Lib.hid (show W0.heap.size ≤ b + 1 by have := AP.out.o1; have := AP.out.o2; omega)
      have B0L := Lib.hid (show W0.heap.size ≤ b by have := AP.out.o1; have := AP.out.o2; omega)
      have KA := Lib.hid (blk_below AP.out.below KARG0.out)
      have hbb := AP.out.big
      clear hx hz
      go_wp2
      obtain ⟨w5, hw5⟩ : ∃ W, wr.alloc (.cells #[.int .i64 x.n, .int .i64 x.d, .string x.t] 67) = W := ⟨_, rfl⟩
      have KA := Lib.hid (blk_below (show Below wr.heap.size wr w5 from hw5 ▸ below1 wr _) KA.out)
      have AP := Lib.hid (show AppN W0 w5 r b j (itF (fun i => cnvI kk j (items.getD i noI)) k) sa sn sc names na nc F from hw5 ▸ AP.out.keep (below1 wr _))
      have X1 := Lib.hid (show w5.heap[wr.heap.size]? = some (.cells #[.int .i64 x.n, .int .i64 x.d, .string x.t] 67 (0, 0)) from hw5 ▸ blk_new wr _ rfl)
      rw [hw5]
      clear hw5
      have H := Lib.hid (heldC_cons (heldC_cons AP.out.heldC KA.out) X1.out)
      refine run_region (ops := (opsOf Tryd.f44 8)) (S := fun w' => HeldC W0 w' ([(wr.heap.size, 67, #[.int .i64 x.n, .int .i64 x.d, .string x.t]), (w.heap.size, 31, #[.int .i64 kk, .slice (some ⟨ba, off, none⟩) n ci, .slice ap parts.length cp, .slice an names.length cn, .slice ac cls.length cc, .slice al levels.length cl, .int .i64 code, .int .i64 env]), (r, 31, #[.int .i64 0, .slice none 0 0, .slice none 0 0, .slice none 0 0, .slice none 0 0, .slice none 0 0, .int .i64 0, .int .i64 0]), (b, 31, #[.int .i64 j, .slice sa sn sc, .slice none 0 0, .slice na names.length nc, .slice none 0 0, .slice none 0 0, .int .i64 0, .int .i64 0])])) [(0, true), (1, true), (2, true), (3, true), (4, true), (5, true), (6, false), (7, false), (8, false), (9, true), (10, false)] (by kernel_rfl) (by kernel_rfl) (by kernel_rfl) (by kernel_rfl) (by kernel_rfl) (fun _ _ _ _ _ h => h) (heldC_drew H.out) ?_
      have H := Lib.hid (heldC_drew H.out)
      have AP := Lib.hid (AP.out.keep (below_drew' (Below.refl _ _)))
      refine runC_partV (b := b) (by kernel_rfl) (show opAt (opsOf Tryd.f44 8) 0 = some (some 26, .fieldAddr 31 (.tmp 5) 1, none) from by kernel_rfl) (by kernel_rfl) (by kernel_rfl) (by kernel_rfl) ?_
      refine runC_cell (b := b) (j := 1) (v := .slice sa sn sc) load_its (show opAt (opsOf Tryd.f44 8) 1 = some (some 27, .load 28 (.tmp 26), none) from by kernel_rfl) (by kernel_rfl) (by kernel_rfl) (by kernel_rfl) (List.Mem.tail _ (List.Mem.tail _ (List.Mem.tail _ (List.Mem.head _)))) rfl ?_
      refine runC_itm (b := wr.heap.size) (show opAt (opsOf Tryd.f44 8) 2 = some (some 28, .load 67 (.tmp 7), none) from by kernel_rfl) (by kernel_rfl) (by kernel_rfl) (by kernel_rfl) (List.Mem.head _) ?_
      refine runC_partV (b := w.heap.size) (by kernel_rfl) (show opAt (opsOf Tryd.f44 8) 3 = some (some 29, .fieldAddr 31 (.tmp 2) 0, none) from by kernel_rfl) (by kernel_rfl) (by kernel_rfl) (by kernel_rfl) ?_
      refine runC_cell (b := w.heap.size) (j := 0) (v := .int .i64 kk) load_int (show opAt (opsOf Tryd.f44 8) 4 = some (some 30, .load 3 (.tmp 29), none) from by kernel_rfl) (by kernel_rfl) (by kernel_rfl) (by kernel_rfl) (List.Mem.tail _ (List.Mem.head _)) rfl ?_
      refine run_mov (v := .int .i64 j) (show opAt (opsOf Tryd.f44 8) 5 = some (some 31, .move (.tmp 1), none) from by kernel_rfl) (by kernel_rfl) (by kernel_rfl) (by kernel_rfl) ?_
      refine run_call (args := [.agg #[.int .i64 x.n, .int .i64 x.d, .string x.t], .int .i64 kk, .int .i64 j]) (show opAt (opsOf Tryd.f44 8) 6 = some (some 32, .call { callee := .value (.func 66), args := [(.tmp 28), (.tmp 30), (.tmp 31)].toArray, argTypes := [67, 3, 3].toArray }, none) from by kernel_rfl) (by kernel_rfl) (by kernel_rfl) (by kernel_rfl) (by kernel_rfl) ?_
      refine (CK.out _ (below_then BW0.out H.out.1)).mono ?_
      rintro en rw1 ⟨rfl, hb⟩
      refine ⟨_, rfl, heldC_call H.out hb, ?_⟩
      have H := Lib.hid (heldC_call H.out hb)
      have AP := Lib.hid (AP.out.keep hb)
      clear hb
      refine tail_item2 z (show opAt (opsOf Tryd.f44 8) 7 = some (some 33, .buildSlice 28 1 #[(0, (.tmp 32))], none) from by kernel_rfl) (by kernel_rfl) (by kernel_rfl) (show opAt (opsOf Tryd.f44 8) 8 = some (some 34, .call { callee := .builtin .append, args := [(.tmp 27), (.tmp 33)].toArray, argTypes := [28, 28].toArray }, none) from by kernel_rfl) (by kernel_rfl) (fun _ => by kernel_rfl) (show opAt (opsOf Tryd.f44 8) 9 = some (some 35, .fieldAddr 31 (.tmp 5) 1, none) from by kernel_rfl) (by kernel_rfl) (by kernel_rfl) (fun _ _ => by kernel_rfl) (show opAt (opsOf Tryd.f44 8) 10 = some (none, .store 28 (.tmp 35) (.tmp 34), none) from by kernel_rfl) (by kernel_rfl) (by kernel_rfl) H.out AP.out.row LN.out (Nat.succ_le_of_lt (Array.getElem?_eq_some_iff.1 (heldC_at H.out (List.Mem.tail _ (List.Mem.tail _ (List.Mem.tail _ (List.Mem.head _)))))).1) W0L.out (List.Mem.tail _ (List.Mem.tail _ (List.Mem.tail _ (List.Mem.head _)))) rfl (Nat.lt_succ_self _) B0L.out (fun q hq => FAR.out _ q hq) ?_
      rintro v' w2 ⟨sa, sn, sc, rfl⟩ hK hO hB hZ hR hG
      simp only [putAll, Act.put, List.setIfInBounds_toArray, List.set_cons_zero, List.set_cons_succ]
      have AN := Lib.hid (AP.out.next hK hO hB (hR _ (List.Mem.tail _ (List.Mem.tail _ (List.Mem.head _))) (by have := AP.out.o2; simp only; omega)) (fun g hg => hG g (by have := AP.out.rng g hg; have := AP.out.big; omega) (by have := AP.out.rng g hg; omega) (fun j hj => by have := (AP.out.row.lt j hj).1; have := AP.out.rng g hg; omega)))
      clear hK hO hB hR hG H FAR LN
      go_wp2
      go_roundw
      case rel => exact ⟨k + 1, sa, sn, sc, by omega, by go_num, NX.out ▸ AN.out⟩
      case measure => simp [intOf]; omega
    · obtain rfl : k = n := by omega
      have K1 := Lib.hid AP.out.vec
      have K0 := Lib.hid AP.out.res
      have FN := Lib.hid AP.out.fin
      obtain ⟨k0, k1, k2, k3, k4, k5, k6, k7⟩ := vec8 K1.out
      obtain ⟨z0, z1, z2, z3, z4, z5, z6, z7⟩ := vec8 K0.out
      obtain ⟨f0, f1, f2, f3, f4, f5, f6, f7⟩ := free8 K0.out
      go_wp2
      rw [EV.out]
      exact vec_end rfl rfl rfl K0.out (FN.out.up BW0.out)
end Go.Proofs.YtddebgmjolojeaaDoor

/- What a loop that appends items to a vector keeps: all blocks of the world ahead of it but the vector's own. -/
namespace Go.Proofs.YtddebgmjolojeaaDoor
open Go.RowKit
set_option maxRecDepth 100000
set_option linter.unusedVariables false

structure AppK (w w0 wr : World) (b : Nat) (kind : Int) (l : List It) (sa : Option Addr) (sn sc : Nat) (na : Option Addr) (nn nc : Nat) : Prop where
  vec : wr.heap[b]? = some (.cells #[.int .i64 kind, .slice sa sn sc, .slice none 0 0, .slice na nn nc, .slice none 0 0, .slice none 0 0, .int .i64 0, .int .i64 0] 31 (0, 0))
  row : wr.ownsRow w0.heap.size 67 3 (.slice sa sn sc) l.length (itCells l)
  kept : ∀ g, g < w0.heap.size → g ≠ b → wr.heap[g]? = w0.heap[g]?
  size : w0.heap.size ≤ wr.heap.size
  below : Below w.heap.size w wr
  lt : b < w0.heap.size
  ge : w.heap.size ≤ b
theorem AppK.start {w w0 : World} {b : Nat} {kind : Int} {na : Option Addr} {nn nc : Nat} (h : w0.heap[b]? = some (.cells #[.int .i64 kind, .slice none 0 0, .slice none 0 0, .slice na nn nc, .slice none 0 0, .slice none 0 0, .int .i64 0, .int .i64 0] 31 (0, 0))) (hB : Below w.heap.size w w0) (hb : w.heap.size ≤ b) : AppK w w0 w0 b kind [] none 0 0 na nn nc :=
  ⟨h, ⟨rfl, .inl ⟨rfl, rfl⟩⟩, fun _ _ _ => rfl, Nat.le_refl _, hB, (Array.getElem?_eq_some_iff.1 h).1, hb⟩
theorem AppK.keep {w w0 wr w1 : World} {b : Nat} {kind : Int} {l : List It} {sa : Option Addr} {sn sc : Nat} {na : Option Addr} {nn nc : Nat} (h : AppK w w0 wr b kind l sa sn sc na nn nc) (hb : Below wr.heap.size wr w1) : AppK w w0 w1 b kind l sa sn sc na nn nc :=
  ⟨blk_below hb h.vec, ownsRow_below h.row hb, fun g hg hn => (hb.block g (Nat.lt_of_lt_of_le hg h.size)).trans (h.kept g hg hn), Nat.le_trans h.size hb.size, below_then h.below hb, h.lt, h.ge⟩
theorem AppK.blk {w w0 wr : World} {b : Nat} {kind : Int} {l : List It} {sa : Option Addr} {sn sc : Nat} {na : Option Addr} {nn nc : Nat} (h : AppK w w0 wr b kind l sa sn sc na nn nc) {g : Nat} {o : Obj} (hg : w0.heap[g]? = some o) (hn : g ≠ b) : wr.heap[g]? = some o := (h.kept g (Array.getElem?_eq_some_iff.1 hg).1 hn).trans hg
theorem AppK.far {w w0 wr : World} {b : Nat} {kind : Int} {l : List It} {sa : Option Addr} {sn sc : Nat} {na : Option Addr} {nn nc : Nat} (h : AppK w w0 wr b kind l sa sn sc na nn nc) {g j : Nat} (hj : (Value.slice sa sn sc).ownBlock = some j) (hg : g < w0.heap.size ∨ wr.heap.size ≤ g) : g ≠ j := by
  have := h.row.lt j hj
  omega
theorem AppK.next {w w0 wr W : World} {b : Nat} {kind : Int} {l : List It} {z : It} {sa sa' : Option Addr} {sn sc sn' sc' : Nat} {na : Option Addr} {nn nc : Nat} (h : AppK w w0 wr b kind l sa sn sc na nn nc)
    (hK : W.heap[b]? = some (.cells (#[.int .i64 kind, .slice sa sn sc, .slice none 0 0, .slice na nn nc, .slice none 0 0, .slice none 0 0, .int .i64 0, .int .i64 0].setIfInBounds 1 (.slice sa' sn' sc')) 31 (0, 0)))
    (hO : W.ownsRow w0.heap.size 67 3 (.slice sa' sn' sc') (l ++ [z]).length (itCells (l ++ [z]))) (hB : Below w.heap.size w W) (hZ : wr.heap.size ≤ W.heap.size)
    (hG : ∀ g, g < wr.heap.size → g ≠ b → (∀ k, (Value.slice sa sn sc).ownBlock = some k → g ≠ k) → W.heap[g]? = wr.heap[g]?) : AppK w w0 W b kind (l ++ [z]) sa' sn' sc' na nn nc :=
  ⟨hK, hO, fun g hg hn => (hG g (Nat.lt_of_lt_of_le hg h.size) hn (fun k hk => h.far hk (.inl hg))).trans (h.kept g hg hn), Nat.le_trans h.size hZ, hB, h.lt, h.ge⟩
/-- The vector that the loop has made. -/
theorem AppK.own {w w0 wr : World} {b : Nat} {kind : Int} {l : List It} {sa : Option Addr} {sn sc : Nat} {na : Option Addr} {nc : Nat} {names : List ByteArray} {F : List Nat} (h : AppK w w0 wr b kind l sa sn sc na names.length nc)
    (hT : OwnTxs w0 na names F) (hnd : F.Nodup) (hF : ∀ g ∈ F, w.heap.size ≤ g ∧ g < w0.heap.size ∧ g ≠ b) (hc : names.length ≤ nc) : ∃ G, OwnVec wr 1 (mkN kind l names) (.agg #[.int .i64 kind, .slice sa sn sc, .slice none 0 0, .slice na names.length nc, .slice none 0 0, .slice none 0 0, .int .i64 0, .int .i64 0]) G ∧ G.Nodup ∧ ∀ g ∈ G, w.heap.size ≤ g ∧ g < wr.heap.size ∧ (w0.heap.size ≤ g ∨ g ∈ F) := by
  obtain ⟨a, c, Fi, e, ho, hn, hr, hc'⟩ := own_of_its h.row
  obtain ⟨rfl, rfl, rfl⟩ : sa = a ∧ sn = l.length ∧ sc = c := by simpa using e
  have h0 : w.heap.size ≤ w0.heap.size := Nat.le_trans h.ge (Nat.le_of_lt h.lt)
  refine ⟨Fi ++ F, ?_, ?_, ?_⟩
  · show OwnVec wr 1 (.mk kind l [] names [] [] 0 0) _ _
    unfold OwnVec
    exact ⟨sa, sc, none, 0, na, nc, none, 0, none, 0, Fi, [], F, [], [], rfl, by simp, ⟨hc', Nat.le_refl _, hc, Nat.le_refl _, Nat.le_refl _⟩, ho, hT.kept (fun g hg => h.kept g (hF g hg).2.1 (hF g hg).2.2), .inl ⟨rfl, rfl⟩, .inl ⟨rfl, rfl⟩, .inl ⟨rfl, rfl⟩⟩
  · rw [List.nodup_append]
    exact ⟨hn, hnd, fun x hx y hy e => by have := hr x hx; have := hF y hy; omega⟩
  · intro g hg
    have h3 := h.size
    rcases List.mem_append.1 hg with hg | hg
    · have := hr g hg; exact ⟨by omega, by omega, .inl this.1⟩
    · have := hF g hg; exact ⟨by omega, by omega, .inr hg⟩
theorem AppK.fin {w w0 wr : World} {b r : Nat} {kind : Int} {l : List It} {sa : Option Addr} {sn sc : Nat} {na : Option Addr} {nc : Nat} {names : List ByteArray} {F : List Nat} (h : AppK w w0 wr b kind l sa sn sc na names.length nc)
    (hT : OwnTxs w0 na names F) (hnd : F.Nodup) (hF : ∀ g ∈ F, w.heap.size ≤ g ∧ g < w0.heap.size ∧ g ≠ b ∧ g ≠ r) (hc : names.length ≤ nc) (hr : w.heap.size ≤ r ∧ r < w0.heap.size) : ResV 1 (mkN kind l names) w (.returned (.agg #[.int .i64 kind, .slice sa sn sc, .slice none 0 0, .slice na names.length nc, .slice none 0 0, .slice none 0 0, .int .i64 0, .int .i64 0])) (put8 wr r 0 (.int .i64 kind) (.slice sa sn sc) (.slice none 0 0) (.slice na names.length nc) (.slice none 0 0) (.slice none 0 0) (.int .i64 0) (.int .i64 0)) := by
  obtain ⟨G, ho, hn, hg⟩ := h.own hT hnd (fun g hg => ⟨(hF g hg).1, (hF g hg).2.1, (hF g hg).2.2.1⟩) hc
  refine ⟨_, rfl, ⟨G, ho.kept _ _ _ _ (fun g hg' => put8_other ?_), hn, fun g hg' => by rw [put8_size]; have := hg g hg'; omega⟩, put8_below h.below hr.1⟩
  rcases (hg g hg').2.2 with h1 | h1
  · omega
  · exact (hF g h1).2.2.2
/-- Items that lie in blocks of the world ahead of the loop, other than the vector's. -/
theorem ItemsAt.loopK {w0 wr : World} {a : Option Addr} {l : List It} {lo hi b : Nat} (h : ItemsAt lo hi w0 a l) (hb : b < lo ∨ hi ≤ b) (hhi : hi ≤ w0.heap.size) (k : ∀ g, g < w0.heap.size → g ≠ b → wr.heap[g]? = w0.heap[g]?) {i : Nat} (hi' : i < l.length) :
    ∃ ba off, a = some ⟨ba, off, none⟩ ∧ ba < w0.heap.size ∧ wr.cell? ⟨ba, off + i * 3, none⟩ = some (.int .i64 (l.getD i noI).n) ∧ wr.cell? ⟨ba, off + i * 3 + 1, none⟩ = some (.int .i64 (l.getD i noI).d) ∧ wr.cell? ⟨ba, off + i * 3 + 2, none⟩ = some (.string (l.getD i noI).t) := by
  have hk : ItemsAt lo hi wr a l := h.kept (fun g o h1 h2 => by simp only [World.cell?]; rw [k g (by omega) (by omega)])
  obtain ⟨ba, off, e, hlt, c0, c1, c2⟩ := hk.at_ hi'
  exact ⟨ba, off, e, by omega, c0, c1, c2⟩
end Go.Proofs.YtddebgmjolojeaaDoor

/- CountBytes as data; that of the program. -/
namespace Go.Proofs.YtddebgmjolojeaaDoor
open Go.RowKit
set_option maxRecDepth 100000
set_option linter.unusedVariables false

/-- The elements as texts. -/
def txsL (kk : Int) (items : List It) (levels : List ByteArray) : List It := cnvL (plnK kk levels) 3 (plnL levels items)
/-- What CountBytes answers. -/
noncomputable def cbV (v : Vec) : Vec := match bB (atmS v = ⟨#[]⟩), v with
  | true, .mk kk items _ names _ levels _ _ => mkN 2 (itF (fun i => bytI ((txsL kk items levels).getD i noI)) (txsL kk items levels).length) names
  | false, _ => noV
end Go.Proofs.YtddebgmjolojeaaDoor

/- l5Plain of the reference. -/
namespace Go.Proofs.YtddebgmjolojeaaDoor
open Go.RowKit
set_option maxRecDepth 100000
set_option linter.unusedVariables false

theorem build_vI {w : World} {k : Int} {a : Option Addr} {n m : Nat} : (Instr.build 31 #[(0, .int .i64 k), (1, .slice a n m)]).run Tryd.prog w = .ok (.agg #[.int .i64 k, .slice a n m, .slice none 0 0, .slice none 0 0, .slice none 0 0, .slice none 0 0, .int .i64 0, .int .i64 0]) w := by
  kernel_rfl
section
variable {ops : Array Oper} {Q : Exit → Act → World → Prop} {S : World → Prop}
variable {r : List (Nat × Bool)} {a : Act} {e : List (Nat × Value)} {w : World} {i d : Nat} {g : Option (Nat × Bool)} {v : Value}
theorem run_bldI {k : Int} {z x : Operand} {sa : Option Addr} {n m : Nat} (ho : opAt ops i = some (some d, .build 31 #[(0, z), (1, x)], g)) (hd : Nat.blt d a.tmps.size = true) (hw : wantE ops a e g = some true)
    (hz : lookO a e z = .int .i64 k) (hx : lookO a e x = .slice sa n m)
    (h : RunE Tryd.prog ops Q S r a ((d, .agg #[.int .i64 k, .slice sa n m, .slice none 0 0, .slice none 0 0, .slice none 0 0, .slice none 0 0, .int .i64 0, .int .i64 0]) :: e) w) : RunE Tryd.prog ops Q S ((i, true) :: r) a e w :=
  run_yield ho hd hw (fun o w' h1 _ => by
    unfold execOp
    simp only [h1, List.map_toArray, List.map_cons, List.map_nil, hx, hz]
    exact run_v build_vI) h
end
/-- What l5Plain works on: the vector's variable, its items in a row of their own. -/
structure PlnU (W0 wx : World) (gu : Nat) (kc : Int) (v' : Value) (l : List It) : Prop where
  blk : wx.heap[gu]? = some (.cells #[.int .i64 kc, v', .slice none 0 0, .slice none 0 0, .slice none 0 0, .slice none 0 0, .int .i64 0, .int .i64 0] 31 (0, 0))
  row : wx.ownsRow W0.heap.size 67 3 v' l.length (itCells l)
  ne : v'.ownBlock ≠ some gu
  ge : W0.heap.size ≤ gu
  below : Below W0.heap.size W0 wx
theorem PlnU.keep {W0 wx w1 : World} {gu : Nat} {kc : Int} {v' : Value} {l : List It} (h : PlnU W0 wx gu kc v' l) (hb : Below wx.heap.size wx w1) : PlnU W0 w1 gu kc v' l :=
  ⟨blk_below hb h.blk, ownsRow_below h.row hb, h.ne, h.ge, below_then h.below hb⟩
theorem itCells_set (z : It) : ∀ (l : List It) (k : Nat), k < l.length → itCells (l.set k z) = (itCells l).take (k * 3) ++ [Value.int .i64 z.n, .int .i64 z.d, .string z.t] ++ (itCells l).drop (k * 3 + 3)
  | [], k, h => absurd h (Nat.not_lt_zero _)
  | x :: l, 0, _ => by simp [itCells]
  | x :: l, k + 1, h => by
    have ih := itCells_set z l k (by simpa using h)
    have e : (k + 1) * 3 = k * 3 + 3 := by omega
    rw [List.set_cons_succ]
    simp only [itCells, e]
    rw [ih]
    simp
theorem row_setI {w : World} {B g n c k : Nat} {cur : Array Value} {l : List It} {z : It} (h : w.ownsRow B 67 3 (.slice (some ⟨g, 0, none⟩) n c) l.length (itCells l)) (hg : w.heap[g]? = some (.cells cur 67 (0, 0))) (hk : k < l.length) :
    k * 3 + 3 ≤ cur.size ∧ (w.setRow g (cur.toList.take (k * 3) ++ [Value.int .i64 z.n, .int .i64 z.d, .string z.t] ++ cur.toList.drop (k * 3 + 3)).toArray).ownsRow B 67 3 (.slice (some ⟨g, 0, none⟩) n c) l.length (itCells (l.set k z)) := by
  obtain ⟨h0, ⟨e, _⟩ | ⟨g', cap, cur', e, hB, hb, hn, hm, hs, ht⟩⟩ := h
  · cases e
  · simp only [Value.slice.injEq, Option.some.injEq, Addr.mk.injEq] at e
    obtain ⟨⟨rfl, _⟩, rfl, rfl⟩ := e
    rw [hb] at hg
    simp only [Option.some.injEq, Obj.cells.injEq] at hg
    obtain ⟨rfl, _⟩ := hg
    have h3 : l.length * 3 ≤ c * 3 := by omega
    refine ⟨by omega, ?_, .inr ⟨g, c, _, rfl, hB, setRow_heap _ _ _ _ _ _ hb, hn, hm, ?_, ?_⟩⟩
    · rw [itCells_len, List.length_set]
    · simp [hs]; omega
    · have e1 : cur'.toList.take (k * 3) = (itCells l).take (k * 3) := by rw [← ht, List.take_take, Nat.min_eq_left (by omega)]
      have e2 : (cur'.toList.drop (k * 3 + 3)).take (l.length * 3 - (k * 3 + 3)) = (itCells l).drop (k * 3 + 3) := by rw [← ht, List.drop_take]
      have hl : (cur'.toList.take (k * 3) ++ [Value.int .i64 z.n, .int .i64 z.d, .string z.t]).length = k * 3 + 3 := by simp [hs]; omega
      rw [itCells_set z l k hk, ← e1, ← e2]
      show List.take _ (cur'.toList.take (k * 3) ++ [Value.int .i64 z.n, .int .i64 z.d, .string z.t] ++ cur'.toList.drop (k * 3 + 3)) = _
      rw [List.take_append, hl, List.take_of_length_le (by rw [hl]; omega)]
/-- The first k items plain. -/
def mixP (levels : List ByteArray) (items : List It) (k : Nat) : List It := itF (fun i => if i < k then plnI levels (items.getD i noI) else items.getD i noI) items.length
theorem PlnU.fin {w W0 wr : World} {gu r n c : Nat} {kc : Int} {sa : Option Addr} {l : List It} (h : PlnU W0 wr gu kc (.slice sa n c) l) (hr : w.heap.size ≤ r ∧ r < W0.heap.size) (hB : Below w.heap.size w W0) :
    ResV 1 (vecOf kc l) w (.returned (.agg #[.int .i64 kc, .slice sa n c, .slice none 0 0, .slice none 0 0, .slice none 0 0, .slice none 0 0, .int .i64 0, .int .i64 0])) (put8 wr r 0 (.int .i64 kc) (.slice sa n c) (.slice none 0 0) (.slice none 0 0) (.slice none 0 0) (.slice none 0 0) (.int .i64 0) (.int .i64 0)) := by
  have ho := own_vecOf (k := kc) (lo := W0.heap.size) h.row (Nat.le_refl _)
  refine ⟨_, rfl, (ho.put8 hr.2 _ _ _ _ _ _ _ _).wide (by omega) ?_, put8_below (below_then hB h.below) hr.1⟩
  rw [put8_size]
  exact Nat.le_refl _
/-- The row, opened. -/
theorem PlnU.cells {W0 wr : World} {gu n c k : Nat} {kc : Int} {sa : Option Addr} {l : List It} (h : PlnU W0 wr gu kc (.slice sa n c) l) (hk : k < l.length) : ∃ g cur, sa = some ⟨g, 0, none⟩ ∧ n = l.length ∧ W0.heap.size ≤ g ∧ g ≠ gu ∧ wr.heap[g]? = some (.cells cur 67 (0, 0)) ∧ cur[k * 3]? = some (.int .i64 (l.getD k noI).n) ∧ cur[k * 3 + 1]? = some (.int .i64 (l.getD k noI).d) ∧ cur[k * 3 + 2]? = some (.string (l.getD k noI).t) := by
  have hne := h.ne
  obtain ⟨h0, ⟨_, e⟩ | ⟨g, cap, cur, e, hB, hb, hn, hm, hs, ht⟩⟩ := h.row
  · omega
  · simp only [Value.slice.injEq] at e
    obtain ⟨rfl, rfl, rfl⟩ := e
    have e3 : ∀ j, j < l.length * 3 → cur[j]? = (itCells l)[j]? := fun j hj => by rw [← ht, List.getElem?_take, if_pos hj, Array.getElem?_toList]
    obtain ⟨q0, q1, q2⟩ := itCells_at l k hk
    exact ⟨g, cur, rfl, rfl, hB, fun e => hne (by rw [← e]; rfl), hb, (e3 _ (by omega)).trans q0, (e3 _ (by omega)).trans q1, (e3 _ (by omega)).trans q2⟩
theorem PlnU.put {W0 wr : World} {gu n c k g o : Nat} {kc : Int} {l : List It} {cur : Array Value} {z : It} (h : PlnU W0 wr gu kc (.slice (some ⟨g, 0, none⟩) n c) l) (hg : wr.heap[g]? = some (.cells cur 67 (0, 0))) (hk : k < l.length) (ho : o = k * 3) : o + 3 ≤ cur.size ∧ PlnU W0 (wr.setRow g (cur.toList.take o ++ [Value.int .i64 z.n, .int .i64 z.d, .string z.t] ++ cur.toList.drop (o + 3)).toArray) gu kc (.slice (some ⟨g, 0, none⟩) n c) (l.set k z) := by
  subst ho
  obtain ⟨h1, h2⟩ := row_setI (z := z) h.row hg hk
  have hge := (h.row.lt g rfl).1
  refine ⟨h1, row_old h.blk (fun e => h.ne (by rw [e]; rfl)), ?_, h.ne, h.ge, below_row h.below hge _⟩
  rw [List.length_set]
  exact h2
end Go.Proofs.YtddebgmjolojeaaDoor

/- How many elements CombineVectors puts together. -/
namespace Go.Proofs.YtddebgmjolojeaaDoor
open Go.RowKit
set_option maxRecDepth 100000
set_option linter.unusedVariables false

theorem coe_parts {j : Int} {v : Vec} (h : OkC j v) : (itmV (coeV j v)).length + (partsV (coeV j v)).length = lengthV v := by
  have e := (coe_same h).1
  obtain ⟨kk, items, parts, names, cls, levels, code, env⟩ := v
  by_cases h4 : j = 4
  · subst h4
    rw [(coe_list (d := 0) rfl h).1] at e ⊢
    rw [← e]
    show 0 + (elems (Vec.mk kk items parts names cls levels code env)).length = lenV 4 0 (elems (Vec.mk kk items parts names cls levels code env)).length
    unfold lenV; rw [if_neg (by decide)]
  · rw [(coe_flat (d := 0) rfl h h4).1] at e ⊢
    rw [← e]
    show (cnvL kk j items).length + 0 = lenV j (cnvL kk j items).length 0
    unfold lenV; rw [if_neg (by have := h.2.1; omega)]
theorem cm_len {l : List Vec} (h : AllV l) : ∀ k, k ≤ l.length → (cmI (cmK l) l k).length + (cmP (cmK l) l k).length = totL l k
  | 0, _ => rfl
  | k + 1, hk => by
    have h1 := cm_len h k (by omega)
    have h2 := coe_parts (cm_ok h (i := k) (by omega))
    show (cmI (cmK l) l k ++ _).length + (cmP (cmK l) l k ++ _).length = totL l k + lengthV (l.getD k noV)
    rw [List.length_append, List.length_append]; omega
theorem cmT_len (l : List Vec) (N : List ByteArray) : ∀ k, (cmT l N k).length = totL l k
  | 0 => rfl
  | k + 1 => by
    show (cmT l N k ++ cmN _ _ _).length = totL l k + lengthV (l.getD k noV)
    rw [List.length_append, cmT_len l N k, cmN_len]
theorem totL_mono (l : List Vec) (k : Nat) : ∀ m, totL l k ≤ totL l (k + m)
  | 0 => Nat.le_refl _
  | m + 1 => Nat.le_trans (totL_mono l k m) (Nat.le_add_right _ _)
theorem coeD_le {d : Nat} {j : Int} {v : Vec} (hd : 1 ≤ d) : coeD d j v ≤ d + 1 := by
  unfold coeD elmD
  split
  · split
    · omega
    · split <;> omega
  · omega
  · omega
theorem Own.itemsAt {d : Nat} {k : Int} {items : List It} {parts : List Vec} {names cls lev : List ByteArray} {code env : Int} {a : Option Addr} {n c lo hi : Nat} {c0 c2 c3 c4 c5 c6 c7 : Value} {w : World} (h : Own d (.mk k items parts names cls lev code env) (.agg #[c0, .slice a n c, c2, c3, c4, c5, c6, c7]) lo hi w) : ItemsAt 0 hi w a items := by
  obtain ⟨d', ai, ci, ap, cp, an, cn, ac, cc, al, cl, ed, e, hQI, _⟩ := vecAt_open (h.vat (Nat.le_refl hi))
  simp only [Value.agg.injEq, Array.mk.injEq, List.cons.injEq, and_true, Value.slice.injEq] at e
  obtain ⟨_, ⟨rfl, _⟩, _⟩ := e
  exact hQI
theorem Own.grown {d : Nat} {V : Vec} {y : Value} {lo hi : Nat} {w w' : World} {o : Option Nat} (h : Own d V y lo hi w) (hg : w.grownBy w' o) (hh : hi ≤ w.heap.size) (hne : ∀ g, o = some g → g < lo ∨ hi ≤ g) : Own d V y lo hi w' := by
  obtain ⟨F, h1, h2, h3⟩ := h.out
  exact ⟨F, h1.kept _ _ _ _ (fun b hb => by have q := h3 b hb; exact hg.block b (by omega) (fun e => by have := hne b e.symm; omega)), h2, h3⟩
theorem Own.setLow {d : Nat} {V : Vec} {y u : Value} {lo hi b j : Nat} {w : World} (h : Own d V y lo hi w) (hb : b < lo) : Own d V y lo hi (w.setCell ⟨b, j, none⟩ u) := by
  obtain ⟨F, h1, h2, h3⟩ := h.out
  exact ⟨F, h1.kept _ _ _ _ (fun g hg => Below.heap_setCell _ _ _ _ (by have := h3 g hg; show g ≠ b; omega)), h2, h3⟩
theorem infoIc : ∃ ie : TypeInfo, Tryd.prog.info? 67 = some ie ∧ ie.zero = some (.agg #[.int .i64 0, .int .i64 0, .string ⟨#[]⟩]) ∧ ie.size = 3 ∧ ie.bytes = 32 := info_parts infoItm3
theorem infoVc : ∃ ie : TypeInfo, Tryd.prog.info? 31 = some ie ∧ ie.zero = some (.agg #[.int .i64 0, .slice none 0 0, .slice none 0 0, .slice none 0 0, .slice none 0 0, .slice none 0 0, .int .i64 0, .int .i64 0]) ∧ ie.size = 8 ∧ ie.bytes = 144 := info_parts infoVec8
theorem own_zeroA (d lo hi : Nat) (w : World) : Own (d + 1) noV (.agg #[.int .i64 0, .slice none 0 0, .slice none 0 0, .slice none 0 0, .slice none 0 0, .slice none 0 0, .int .i64 0, .int .i64 0]) lo hi w := by
  refine ⟨[], ?_, List.nodup_nil, (fun _ h => by cases h)⟩
  show OwnVec w (d + 1) (.mk 0 [] [] [] [] [] 0 0) _ []
  unfold OwnVec
  exact ⟨none, 0, none, 0, none, 0, none, 0, none, 0, [], [], [], [], [], rfl, rfl, ⟨Nat.le_refl _, Nat.le_refl _, Nat.le_refl _, Nat.le_refl _, Nat.le_refl _⟩, .inl ⟨rfl, rfl⟩, .inl ⟨rfl, rfl⟩, .inl ⟨rfl, rfl⟩, .inl ⟨rfl, rfl⟩, .inl ⟨rfl, rfl⟩⟩
theorem zeroSA (d : Nat) (s : ByteArray) (w w' : World) (hb : Below w.heap.size w w') : ResVS (d + 1) noV s w (.returned (.tuple #[.agg #[.int .i64 0, .slice none 0 0, .slice none 0 0, .slice none 0 0, .slice none 0 0, .slice none 0 0, .int .i64 0, .int .i64 0], .string s])) w' := ⟨_, rfl, own_zeroA _ _ _ _, hb⟩
theorem Und.keep {lo : Nat} {w : World} {d : Nat} {items : List It} {parts : List Vec} {names cls lev : List ByteArray} {vi vp vn vc vl : Value} {X : List Nat} {w' : World} (h : Und lo w d items parts names cls lev vi vp vn vc vl X) (hb : Below w.heap.size w w') : Und lo w' d items parts names cls lev vi vp vn vc vl X := h.below hb
theorem row_form {lo : Nat} {w : World} {el : TypeId} {size n : Nat} {v : Value} {xs : List Value} (h : w.ownsRow lo el size v n xs) : ∃ s c, v = .slice s n c := by
  obtain ⟨_, ⟨e, h0⟩ | ⟨g, cap, cur, e, _⟩⟩ := h
  · subst h0; exact ⟨_, _, e⟩
  · exact ⟨_, _, e⟩
theorem specCleanN (kk code env : Int) (ai ap an ac al : Option Addr) (ni ci np cp cn nc cc nl cl : Nat) (names : List ByteArray) (lo hi : Nat) (w : World) (hN : TextsAt lo hi w an names) (hhi : hi ≤ w.heap.size) (ln : names.length ≤ 1048576) :
    Calls Tryd.prog 40 #[.agg #[.int .i64 kk, .slice ai ni ci, .slice ap np cp, .slice an names.length cn, .slice ac nc cc, .slice al nl cl, .int .i64 code, .int .i64 env]] w fun e w' => Below w.heap.size w w' ∧ (((∃ i, i < names.length ∧ txtS names i ≠ ⟨#[]⟩) ∧ e = .returned (.agg #[.int .i64 kk, .slice ai ni ci, .slice ap np cp, .slice an names.length cn, .slice ac nc cc, .slice al nl cl, .int .i64 code, .int .i64 env])) ∨
      ((∀ i, i < names.length → txtS names i = ⟨#[]⟩) ∧ ∃ g, w.heap.size ≤ g ∧ e = .returned (.agg #[.int .i64 kk, .slice ai ni ci, .slice ap np cp, .slice (some ⟨g, 0, none⟩) 0 0, .slice ac nc cc, .slice al nl cl, .int .i64 code, .int .i64 env]))) := by
  have h := specClean kk code env (List.replicate ni noI) (List.replicate np noV) names (List.replicate nc ⟨#[]⟩) (List.replicate nl ⟨#[]⟩) ai ap an ac al ci cp cn cc cl lo hi w hN hhi ln
  simp only [List.length_replicate] at h
  exact h
end Go.Proofs.YtddebgmjolojeaaDoor

/- convertVector to lists; CoerceVector of the program. -/
namespace Go.Proofs.YtddebgmjolojeaaDoor
open Go.RowKit
set_option maxRecDepth 100000
set_option linter.unusedVariables false

/-- A result of a vector and a truth value. -/
def ResVB (d : Nat) (V : Vec) (b : Bool) (w : World) (e : Ending) (w' : World) : Prop := ∃ y, e = .returned (.tuple #[y, .bool b]) ∧ Own d V y w.heap.size w'.heap.size w' ∧ Below w.heap.size w w'
theorem zeroB (b : Bool) (w w' : World) (hb : Below w.heap.size w w') : ResVB 1 noV b w (.returned (.tuple #[.agg #[.int .i64 0, .slice none 0 0, .slice none 0 0, .slice none 0 0, .slice none 0 0, .slice none 0 0, .int .i64 0, .int .i64 0], .bool b])) w' := ⟨_, rfl, own_zero _ _ _, hb⟩
/-- A list whose parts and names are there. -/
theorem own_listV {w : World} {d lo hi : Nat} {parts : List Vec} {names : List ByteArray} {ap an : Option Addr} {cp cn : Nat} {Fp Fn : List Nat} (hp : OwnParts w d (.slice ap parts.length cp) parts Fp) (hn : OwnTxs w an names Fn) (np : Fp.Nodup) (nn : Fn.Nodup) (hr : ∀ b ∈ Fp, lo ≤ b ∧ b < hi) (hq : ∀ b ∈ Fn, lo ≤ b ∧ b < hi) (hd : ∀ b ∈ Fp, b ∉ Fn) (hc : names.length ≤ cn) :
    Own (d + 1) (.mk 4 [] parts names [] [] 0 0) (.agg #[.int .i64 4, .slice none 0 0, .slice ap parts.length cp, .slice an names.length cn, .slice none 0 0, .slice none 0 0, .int .i64 0, .int .i64 0]) lo hi w := by
  obtain ⟨ap', cp', e, h1, h2⟩ := hp
  simp only [Value.slice.injEq, true_and] at e
  obtain ⟨rfl, rfl⟩ := e
  refine ⟨Fp ++ Fn, ?_, ?_, fun b hb => ?_⟩
  · show OwnVec w (d + 1) (.mk 4 [] parts names [] [] 0 0) _ _
    unfold OwnVec
    exact ⟨none, 0, ap, cp, an, cn, none, 0, none, 0, [], Fp, Fn, [], [], rfl, by simp, ⟨Nat.le_refl _, h1, hc, Nat.le_refl _, Nat.le_refl _⟩, .inl ⟨rfl, rfl⟩, hn, .inl ⟨rfl, rfl⟩, .inl ⟨rfl, rfl⟩, h2⟩
  · rw [List.nodup_append]
    exact ⟨np, nn, fun x hx y hy e => hd x hx (e ▸ hy)⟩
  · rcases List.mem_append.1 hb with h | h
    · exact hr b h
    · exact hq b h
theorem OwnParts.form {w : World} {d : Nat} {y : Value} {parts : List Vec} {F : List Nat} (h : OwnParts w d y parts F) : ∃ ap cp, y = .slice ap parts.length cp := by
  obtain ⟨ap, cp, e, _⟩ := h
  exact ⟨ap, cp, e⟩
set_option maxHeartbeats 8000000 in
theorem implConvL (d : Nat) (v : Vec) (val : Value) (lo hi : Nat) (w : World) (hv : VecAt lo hi w d v val) (hhi : hi ≤ w.heap.size) (hsm : Small d v) (hval : ValidV v) :
    Calls Tryd.prog 44 #[val, .int .i64 4] w (ResV (elmD d v + 1) (.mk 4 [] (elems v) (namesV v) [] [] 0 0) w) := by
  have CE := Lib.hid (fun (W : World) (hb : Below w.heap.size w W) => implElemsO d v val lo hi W (hv.below hb hhi) (Nat.le_trans hhi hb.size) hsm hval)
  obtain ⟨VV, hVV⟩ : ∃ V, v = V := ⟨_, rfl⟩
  rw [hVV] at CE ⊢
  have XN := Lib.hid (show namesV VV = namesV v by rw [hVV])
  obtain ⟨kk, items, parts, names, cls, levels, code, env⟩ := v
  have XN := Lib.hid (show namesV VV = names from XN.out)
  obtain ⟨d', ai, ci, ap, cp, an, cn, ac, cc, al, cl, ed, rfl, hI, hN, hC, hL, hP⟩ := vecAt_open hv
  have ln : names.length ≤ 1048576 := by subst ed; exact hsm.2.2.1
  have CC := Lib.hid (fun (w1 : World) (hb : Below w.heap.size w w1) => implCopyAny names an cn lo hi w1 (hN.below hb hhi) ln)
  obtain ⟨D, hD⟩ : ∃ D, elmD d VV = D := ⟨_, rfl⟩
  obtain ⟨E, hE⟩ : ∃ E, elems VV = E := ⟨_, rfl⟩
  have CE := Lib.hid (fun W hb => (by have q := CE.out W hb; unfold ElmOwn at q; rw [hD, hE] at q; exact q : Calls Tryd.prog 65 #[.agg #[.int .i64 kk, .slice ai items.length ci, .slice ap parts.length cp, .slice an names.length cn, .slice ac cls.length cc, .slice al levels.length cl, .int .i64 code, .int .i64 env]] W (fun e w' => ∃ y F, e = .returned y ∧ OwnParts w' D y E F ∧ F.Nodup ∧ (∀ b ∈ F, W.heap.size ≤ b ∧ b < w'.heap.size) ∧ Below W.heap.size W w')))
  rw [hD, hE, XN.out]
  clear hv hI hN hC hL hP hsm hval ed hVV hD hE XN
  go_enter Tryd.func44, Tryd.ntmps44
  go_wp2_with fail
  obtain ⟨w1, hw1⟩ : ∃ W, (w.alloc (.cells #[.int .i64 kk, .slice ai items.length ci, .slice ap parts.length cp, .slice an names.length cn, .slice ac cls.length cc, .slice al levels.length cl, .int .i64 code, .int .i64 env] 31)).alloc (.cells #[.int .i64 0, .slice none 0 0, .slice none 0 0, .slice none 0 0, .slice none 0 0, .slice none 0 0, .int .i64 0, .int .i64 0] 31) = W := ⟨_, rfl⟩
  have hsz : (w.alloc (.cells #[.int .i64 kk, .slice ai items.length ci, .slice ap parts.length cp, .slice an names.length cn, .slice ac cls.length cc, .slice al levels.length cl, .int .i64 code, .int .i64 env] 31)).heap.size = w.heap.size + 1 := by simp
  have B1 := Lib.hid (show Below w.heap.size w w1 from hw1 ▸ below2 w _ _)
  have S1 := Lib.hid (show w1.heap.size = w.heap.size + 2 by rw [← hw1]; simp)
  have KA := Lib.hid (show w1.heap[w.heap.size]? = some (.cells #[.int .i64 kk, .slice ai items.length ci, .slice ap parts.length cp, .slice an names.length cn, .slice ac cls.length cc, .slice al levels.length cl, .int .i64 code, .int .i64 env] 31 (0, 0)) from hw1 ▸ blk_old (blk_new w _ rfl))
  have KR := Lib.hid (show w1.heap[w.heap.size + 1]? = some (.cells #[.int .i64 0, .slice none 0 0, .slice none 0 0, .slice none 0 0, .slice none 0 0, .slice none 0 0, .int .i64 0, .int .i64 0] 31 (0, 0)) from hw1 ▸ blk_new _ _ hsz.symm)
  rw [hw1]
  clear hw1 hsz
  with_reducible refine (CC.out _ B1.out).mono ?_
  rintro e w2 ⟨v, rfl, ⟨na, nc, FN, rfl, hT, hnd, hr, hcap⟩, b⟩
  have B2 := Lib.hid (below_then B1.out b)
  have KA := Lib.hid (blk_below b KA.out)
  have KR := Lib.hid (blk_below b KR.out)
  have S2 := Lib.hid b.size
  obtain ⟨w3, hw3⟩ : ∃ W, w2.alloc (.cells #[.int .i64 4, .slice none 0 0, .slice none 0 0, .slice na names.length nc, .slice none 0 0, .slice none 0 0, .int .i64 0, .int .i64 0] 31) = W := ⟨_, rfl⟩
  have b3 : Below w2.heap.size w2 w3 := hw3 ▸ below1 w2 _
  have S3 := Lib.hid (show w3.heap.size = w2.heap.size + 1 by rw [← hw3]; simp)
  have KB := Lib.hid (show w3.heap[w2.heap.size]? = some (.cells #[.int .i64 4, .slice none 0 0, .slice none 0 0, .slice na names.length nc, .slice none 0 0, .slice none 0 0, .int .i64 0, .int .i64 0] 31 (0, 0)) from hw3 ▸ blk_new w2 _ rfl)
  have B3 := Lib.hid (below_then B2.out b3)
  have KA3 := Lib.hid (blk_below b3 KA.out)
  have KR3 := Lib.hid (blk_below b3 KR.out)
  have HT3 := Lib.hid (show OwnTxs w3 na names FN from hT.kept (fun g hg => b3.block g (hr g hg).2))
  have EW3 := Lib.hid hw3
  have HND := Lib.hid hnd
  have HRG := Lib.hid hr
  have HCP := Lib.hid hcap
  have hltA := (Array.getElem?_eq_some_iff.1 KA.out).1
  clear b hT hnd hr hcap b3 hw3
  obtain ⟨k0, k1, k2, k3, k4, k5, k6, k7⟩ := vec8 KA.out
  go_wp2_with fail
  rw [EW3.out]
  with_reducible refine (CE.out _ B3.out).mono ?_
  rintro e w4 ⟨y, FP, rfl, hp, hnp, hrp, b⟩
  obtain ⟨ap', cp', rfl⟩ := hp.form
  have B4 := Lib.hid (below_then B3.out b)
  have KB := Lib.hid (blk_below b KB.out)
  have KR := Lib.hid (blk_below b KR3.out)
  have HT := Lib.hid (show OwnTxs w4 na names FN from HT3.out.kept (fun g hg => b.block g (by have := HRG.out g hg; have := S3.out; omega)))
  have S4 := Lib.hid b.size
  have HP := Lib.hid hp
  have HNP := Lib.hid hnp
  have HRP := Lib.hid hrp
  clear k0 k1 k2 k3 k4 k5 k6 k7 hp hnp hrp b hltA
  obtain ⟨y0, y1, y2, y3, y4, y5, y6, y7⟩ := vec8 KB.out
  obtain ⟨e0, e1, e2, e3, e4, e5, e6, e7⟩ := free8 KB.out
  obtain ⟨z0, z1, z2, z3, z4, z5, z6, z7⟩ := vec8 KR.out
  obtain ⟨f0, f1, f2, f3, f4, f5, f6, f7⟩ := free8 KR.out
  have hS1 := S1.out
  have hS2 := S2.out
  have hS3 := S3.out
  have hS4 := S4.out
  have hbr : ¬ w.heap.size + 1 = w2.heap.size := by omega
  have SX : (w4.setCell ⟨w2.heap.size, 2, none⟩ (.slice ap' E.length cp')).heap.size = w4.heap.size := by simp
  have KRX := Lib.hid (show (w4.setCell ⟨w2.heap.size, 2, none⟩ (.slice ap' E.length cp')).heap[w.heap.size + 1]? = _ from (Below.heap_setCell _ _ _ _ hbr).trans KR.out)
  have BX := Lib.hid (B4.out.setCell (p := ⟨w2.heap.size, 2, none⟩) (show w.heap.size ≤ w2.heap.size by omega) (.slice ap' E.length cp'))
  have OX := Lib.hid (own_listV (w := w4.setCell ⟨w2.heap.size, 2, none⟩ (.slice ap' E.length cp')) (lo := w.heap.size + 2) (hi := w4.heap.size) (HP.out.kept (fun g hg => Below.heap_setCell _ _ _ _ (by have := HRP.out g hg; show g ≠ w2.heap.size; omega))) (HT.out.kept (fun g hg => Below.heap_setCell _ _ _ _ (by have := HRG.out g hg; show g ≠ w2.heap.size; omega))) HNP.out HND.out (fun g hg => by have := HRP.out g hg; omega) (fun g hg => by have := HRG.out g hg; omega) (fun g hg hh => by have := HRP.out g hg; have := HRG.out g hh; omega) HCP.out)
  go_wp2
  exact vec_end rfl rfl rfl KRX.out ⟨_, rfl, (OX.out.put8 (Nat.lt_succ_self _) _ _ _ _ _ _ _ _).wide (by omega) (by rw [put8_size, SX]; exact Nat.le_refl _), put8_below BX.out (Nat.le_succ _)⟩
end Go.Proofs.YtddebgmjolojeaaDoor

/- CoerceVector of the program. -/
namespace Go.Proofs.YtddebgmjolojeaaDoor
open Go.RowKit
set_option maxRecDepth 100000
set_option linter.unusedVariables false

theorem okC_iff {j : Int} {v : Vec} : OkC j v ↔ ValidV v ∧ ((kindV v ≠ 5 ∧ kindV v ≤ j ∧ j ≤ 4) ∨ (kindV v = 5 ∧ j = 4)) := by
  unfold OkC
  constructor
  · rintro ⟨h, h1, h2, h3⟩
    refine ⟨h, ?_⟩
    by_cases h5 : kindV v = 5
    · exact .inr ⟨h5, h3 h5⟩
    · exact .inl ⟨h5, h2.resolve_right h5, h1⟩
  · rintro ⟨h, ⟨h5, h1, h2⟩ | ⟨h5, h4⟩⟩
    · exact ⟨h, h2, .inl h1, fun e => absurd e h5⟩
    · exact ⟨h, by omega, .inr h5, fun _ => h4⟩
/-- convertVector wherever CoerceVector calls it. -/
theorem implConvC (d : Nat) (v : Vec) (j : Int) (val : Value) (lo hi : Nat) (w : World) (hv : VecAt lo hi w d v val) (hhi : hi ≤ w.heap.size) (hsm : Small d v) (ok : OkC j v) (tab : Lib.TabIs Tryd.prog w "internal/strconv.uint64pow10" .u64 Lib.pow10Tab) :
    Calls Tryd.prog 44 #[val, .int .i64 j] w (ResV (coeD d j v) (coeV j v) w) := by
  obtain ⟨VV, hVV⟩ : ∃ V, v = V := ⟨_, rfl⟩
  have hV := hVV
  obtain ⟨kk, items, parts, names, cls, levels, code, env⟩ := v
  by_cases h4 : j = 4
  · subst h4
    have e := coe_list (d := d) rfl ok
    rw [e.1, e.2.2]
    exact implConvL d _ val lo hi w hv hhi hsm ok.1
  · have e := coe_flat (d := d) rfl ok h4
    rw [e.1, e.2.2]
    have hf : FlatOk kk items parts.length names cls levels code env := ok.1.1.flat
    have o2 : kk ≤ j ∨ kk = 5 := ok.2.2.1
    have o3 : kk = 5 → j = 4 := ok.2.2.2
    have o1 := ok.2.1
    have h5 : ¬ kk = 5 := fun e => h4 (o3 e)
    have hl := hf.h_len
    unfold lenV at hl
    rw [if_neg h5] at hl
    cases d with
    | zero => exact hsm.elim
    | succ d => exact implConv (d + 1) kk j items parts names cls levels code env val lo hi w hv hhi hf.h_kind.1 (o2.resolve_right h5) (by omega) (by omega) hsm.2.2.1 (fun i hi => (hf.h_items i hi).1) tab
end Go.Proofs.YtddebgmjolojeaaDoor

/- What CoerceVector answers is small and fits. -/
namespace Go.Proofs.YtddebgmjolojeaaDoor
open Go.RowKit
set_option maxRecDepth 100000
set_option linter.unusedVariables false

theorem cnvL_in {kk j : Int} {items : List It} (hit : ∀ i, i < items.length → ItOk kk (items.getD i noI)) (hk : kk ≤ j) (hj : j ≤ 3) : ∀ x ∈ cnvL kk j items, ItOk j x := by
  intro x hx
  obtain ⟨i, hi, rfl⟩ := List.mem_map.1 (show x ∈ (List.range items.length).map (fun i => cnvI kk j (items.getD i noI)) from hx)
  exact cnv_ok (hit i (List.mem_range.1 hi)) hk hj
theorem small_list {d : Nat} {P : List Vec} {names : List ByteArray} (lp : P.length ≤ 1048576) (ln : names.length ≤ 1048576) (hs : ∀ s ∈ names, s.size ≤ 1048576) (hp : ∀ p ∈ P, Small d p) : Small (d + 1) (.mk 4 [] P names [] [] 0 0) := by
  unfold Small
  exact ⟨Nat.zero_le _, lp, ln, Nat.zero_le _, Nat.zero_le _, (fun _ h => by cases h), hs, (fun _ h => by cases h), (fun _ h => by cases h), hp⟩
theorem fits_list {d : Nat} {P : List Vec} {names : List ByteArray} (lp : P.length ≤ maxLen) (ln : names.length ≤ maxLen) (hs : ∀ s ∈ names, s.size ≤ maxLen) (hp : ∀ p ∈ P, Fits d p) : Fits (d + 1) (.mk 4 [] P names [] [] 0 0) := by
  unfold Fits
  exact ⟨⟨by decide, by decide⟩, ⟨by decide, by decide⟩, ⟨by decide, by decide⟩, Nat.zero_le _, lp, ln, Nat.zero_le _, Nat.zero_le _, (fun _ h => by cases h), hs, (fun _ h => by cases h), (fun _ h => by cases h), hp⟩
theorem fits_one {k : Int} {x : It} (hk : -9223372036854775808 ≤ k ∧ k ≤ 9223372036854775807) (h : InB x) : Fits 1 (vecOf k [x]) := fits_vecOf hk (by simp) (fun y hy => by obtain rfl := List.mem_singleton.1 hy; exact h)
theorem coe_small {d : Nat} {j : Int} {v : Vec} (hsm : Small d v) (ok : OkC j v) : Small (coeD d j v) (coeV j v) := by
  obtain ⟨kk, items, parts, names, cls, levels, code, env⟩ := v
  have hf : FlatOk kk items parts.length names cls levels code env := ok.1.1.flat
  cases d with
  | zero => exact hsm.elim
  | succ d =>
    obtain ⟨s1, s2, s3, s4, s5, s6, s7, s8, s9, s10⟩ := id hsm
    by_cases h4 : j = 4
    · subst h4
      have e := coe_list (d := d + 1) rfl ok
      rw [e.1, e.2.2]
      by_cases h5 : kk = 5
      · subst h5
        rw [elmD_fun, elems_fun rfl]
        exact small_list (by simp) s3 s7 (fun p hp => by obtain rfl := List.mem_singleton.1 hp; exact hsm)
      · by_cases h44 : kk = 4
        · subst h44
          rw [elmD_list rfl, elems_list]
          exact small_list s2 s3 s7 s10
        · rw [elmD_its h5 h44, elems_items h5 h44]
          exact small_list (by rw [List.length_map]; exact s1) s3 s7 (fun p hp => by obtain ⟨x, hx, rfl⟩ := List.mem_map.1 hp; exact small_one (s6 x hx))
    · have e := coe_flat (d := d + 1) rfl ok h4
      rw [e.1, e.2.2]
      have o2 : kk ≤ j ∨ kk = 5 := ok.2.2.1
      have o3 : kk = 5 → j = 4 := ok.2.2.2
      have o1 := ok.2.1
      exact small_mkN (by rw [cnvL_len]; exact s1) (fun x hx => by have := (itOk_size (cnvL_in (fun i hi => (hf.h_items i hi).1) (o2.resolve_right (fun e => h4 (o3 e))) (by omega) x hx)).2; omega) s3 s7
theorem coe_fits {d : Nat} {j : Int} {v : Vec} (hsm : Small d v) (hfi : Fits d v) (ok : OkC j v) : Fits (coeD d j v) (coeV j v) := by
  obtain ⟨kk, items, parts, names, cls, levels, code, env⟩ := v
  have hf : FlatOk kk items parts.length names cls levels code env := ok.1.1.flat
  cases d with
  | zero => exact hsm.elim
  | succ d =>
    obtain ⟨s1, s2, s3, s4, s5, s6, s7, s8, s9, s10⟩ := id hsm
    obtain ⟨f1, f2, f3, f4, f5, f6, f7, f8, f9, f10, f11, f12, f13⟩ := id hfi
    by_cases h4 : j = 4
    · subst h4
      have e := coe_list (d := d + 1) rfl ok
      rw [e.1, e.2.2]
      by_cases h5 : kk = 5
      · subst h5
        rw [elmD_fun, elems_fun rfl]
        exact fits_list (by unfold maxLen; simp) f6 f10 (fun p hp => by obtain rfl := List.mem_singleton.1 hp; exact hfi)
      · by_cases h44 : kk = 4
        · subst h44
          rw [elmD_list rfl, elems_list]
          exact fits_list f5 f6 f10 f13
        · rw [elmD_its h5 h44, elems_items h5 h44]
          exact fits_list (by rw [List.length_map]; exact f4) f6 f10 (fun p hp => by obtain ⟨x, hx, rfl⟩ := List.mem_map.1 hp; exact fits_one f1 (f9 x hx))
    · have e := coe_flat (d := d + 1) rfl ok h4
      rw [e.1, e.2.2]
      have o2 : kk ≤ j ∨ kk = 5 := ok.2.2.1
      have o3 : kk = 5 → j = 4 := ok.2.2.2
      have o1 := ok.2.1
      have hkk := hf.h_kind
      exact fits_mkN (by have := o2.resolve_right (fun e => h4 (o3 e)); omega) (by rw [cnvL_len]; exact s1) (fun x hx => (itOk_size (cnvL_in (fun i hi => (hf.h_items i hi).1) (o2.resolve_right (fun e => h4 (o3 e))) (by omega) x hx)).1) s3 s7
end Go.Proofs.YtddebgmjolojeaaDoor

/- A loop that appends vectors to a list: what it keeps. -/
namespace Go.Proofs.YtddebgmjolojeaaDoor
open Go.RowKit
set_option maxRecDepth 100000
set_option linter.unusedVariables false

structure AppP (w w0 wr : World) (b : Nat) (kind : Int) (d : Nat) (S : List Vec) (k : Nat) (v : Value) (na : Option Addr) (nn nc : Nat) : Prop where
  vec : wr.heap[b]? = some (.cells #[.int .i64 kind, .slice none 0 0, v, .slice na nn nc, .slice none 0 0, .slice none 0 0, .int .i64 0, .int .i64 0] 31 (0, 0))
  ex : ∃ (vals : List Value) (Fs : List (List Nat)), vals.length = k ∧ Fs.length = k ∧ wr.ownsRow w0.heap.size 31 8 v k (vals.flatMap cl8) ∧
    (∀ i, i < k → OwnVec wr d (S.getD i noV) (vals.getD i undef) (Fs.getD i [])) ∧ Fs.flatten.Nodup ∧ (∀ g ∈ Fs.flatten, w0.heap.size ≤ g ∧ g < wr.heap.size ∧ v.ownBlock ≠ some g)
  kept : ∀ g, g < w0.heap.size → g ≠ b → wr.heap[g]? = w0.heap[g]?
  size : w0.heap.size ≤ wr.heap.size
  below : Below w.heap.size w wr
  lt : b < w0.heap.size
  ge : w.heap.size ≤ b
theorem AppP.start {w w0 : World} {b : Nat} {kind : Int} {d : Nat} {S : List Vec} {na : Option Addr} {nn nc : Nat} (h : w0.heap[b]? = some (.cells #[.int .i64 kind, .slice none 0 0, .slice none 0 0, .slice na nn nc, .slice none 0 0, .slice none 0 0, .int .i64 0, .int .i64 0] 31 (0, 0))) (hB : Below w.heap.size w w0) (hb : w.heap.size ≤ b) : AppP w w0 w0 b kind d S 0 (.slice none 0 0) na nn nc :=
  ⟨h, ⟨[], [], rfl, rfl, ⟨rfl, .inl ⟨rfl, rfl⟩⟩, fun i h => absurd h (Nat.not_lt_zero _), List.nodup_nil, fun b h => by cases h⟩, fun _ _ _ => rfl, Nat.le_refl _, hB, (Array.getElem?_eq_some_iff.1 h).1, hb⟩
theorem AppP.blk {w w0 wr : World} {b : Nat} {kind : Int} {d : Nat} {S : List Vec} {k : Nat} {v : Value} {na : Option Addr} {nn nc : Nat} (h : AppP w w0 wr b kind d S k v na nn nc) {g : Nat} {o : Obj} (hg : w0.heap[g]? = some o) (hn : g ≠ b) : wr.heap[g]? = some o := (h.kept g (Array.getElem?_eq_some_iff.1 hg).1 hn).trans hg
theorem AppP.row {w w0 wr : World} {b : Nat} {kind : Int} {d : Nat} {S : List Vec} {k : Nat} {v : Value} {na : Option Addr} {nn nc : Nat} (h : AppP w w0 wr b kind d S k v na nn nc) : ∀ j, v.ownBlock = some j → w0.heap.size ≤ j ∧ j < wr.heap.size := by
  obtain ⟨vals, Fs, h1, h2, h3, _⟩ := h.ex
  exact h3.lt
theorem AppP.next {w w0 wr : World} {b : Nat} {kind : Int} {d : Nat} {S : List Vec} {k : Nat} {v : Value} {na : Option Addr} {nn nc : Nat} {w1 W : World} {v' : Value} {c0 c1 c2 c3 c4 c5 c6 c7 : Value} {vals : List Value} {Fs : List (List Nat)} (h : AppP w w0 wr b kind d S k v na nn nc) (hb : Below wr.heap.size wr w1) (ho : Own d (S.getD k noV) (.agg #[c0, c1, c2, c3, c4, c5, c6, c7]) wr.heap.size w1.heap.size w1)
    (h1 : vals.length = k) (h2 : Fs.length = k) (h4 : ∀ i, i < k → OwnVec wr d (S.getD i noV) (vals.getD i undef) (Fs.getD i [])) (h5 : Fs.flatten.Nodup) (h6 : ∀ g ∈ Fs.flatten, w0.heap.size ≤ g ∧ g < wr.heap.size ∧ v.ownBlock ≠ some g)
    (hK : W.heap[b]? = some (.cells (#[.int .i64 kind, .slice none 0 0, v, .slice na nn nc, .slice none 0 0, .slice none 0 0, .int .i64 0, .int .i64 0].setIfInBounds 2 v') 31 (0, 0))) (hO : W.ownsRow w0.heap.size 31 8 v' (k + 1) (vals.flatMap cl8 ++ [c0, c1, c2, c3, c4, c5, c6, c7])) (hB : Below w.heap.size w W) (hZ : w1.heap.size ≤ W.heap.size) (hM : Moved w1 v v')
    (hG : ∀ g, g < w1.heap.size → g ≠ b → v.ownBlock ≠ some g → W.heap[g]? = w1.heap[g]?) : AppP w w0 W b kind d S (k + 1) v' na nn nc := by
  obtain ⟨F, g1, g2, g3⟩ := ho.out
  have hbs := hb.size
  have hsz := h.size
  have hlt := h.lt
  have hown := h.row
  have old : ∀ g ∈ Fs.flatten, W.heap[g]? = wr.heap[g]? := fun g hg => by
    have q := h6 g hg
    exact (hG g (by omega) (by omega) q.2.2).trans (hb.block g q.2.1)
  have new : ∀ g ∈ F, W.heap[g]? = w1.heap[g]? := fun g hg => by
    have q := g3 g hg
    exact hG g q.2 (by omega) (fun e => by have := hown g e; omega)
  have hv : ∀ g, v'.ownBlock = some g → v.ownBlock = some g ∨ w1.heap.size ≤ g := fun g e => by
    rcases hM with q | ⟨g', q, hg'⟩
    · exact .inl (q ▸ e)
    · rw [q] at e; obtain rfl := Option.some.inj e; exact .inr hg'
  refine ⟨hK, ⟨vals ++ [Value.agg #[c0, c1, c2, c3, c4, c5, c6, c7]], Fs ++ [F], by simp [h1], by simp [h2], ?_, fun i hi => ?_, ?_, fun g hg => ?_⟩, fun g hg hn => (hG g (by omega) hn (fun e => by have := hown g e; omega)).trans ((hb.block g (by omega)).trans (h.kept g hg hn)), by omega, hB, hlt, h.ge⟩
  · rw [List.flatMap_append]
    exact hO
  · by_cases e : i = k
    · subst e
      have e1 : (vals ++ [Value.agg #[c0, c1, c2, c3, c4, c5, c6, c7]]).getD i undef = .agg #[c0, c1, c2, c3, c4, c5, c6, c7] := by rw [List.getD_eq_getElem?_getD, List.getElem?_append_right (by omega)]; simp [h1]
      have e2 : (Fs ++ [F]).getD i [] = F := by rw [List.getD_eq_getElem?_getD, List.getElem?_append_right (by omega)]; simp [h2]
      rw [e1, e2]
      exact g1.kept _ _ _ _ new
    · have e1 : (vals ++ [Value.agg #[c0, c1, c2, c3, c4, c5, c6, c7]]).getD i undef = vals.getD i undef := by rw [List.getD_eq_getElem?_getD, List.getD_eq_getElem?_getD, List.getElem?_append_left (by omega)]
      have e2 : (Fs ++ [F]).getD i [] = Fs.getD i [] := by rw [List.getD_eq_getElem?_getD, List.getD_eq_getElem?_getD, List.getElem?_append_left (by omega)]
      rw [e1, e2]
      exact (h4 i (by omega)).kept _ _ _ _ (fun b hb' => old b (mem_flat (by omega) hb'))
  · rw [List.flatten_append, List.nodup_append]
    refine ⟨h5, by simpa using g2, fun x hx y hy e => ?_⟩
    have h7 := h6 x hx
    have h8 := g3 y (by simpa using hy)
    omega
  · rw [List.flatten_append, List.mem_append] at hg
    rcases hg with hg | hg
    · have h7 := h6 g hg
      refine ⟨h7.1, by omega, fun e => ?_⟩
      rcases hv g e with q | q
      · exact h7.2.2 q
      · omega
    · have hg' : g ∈ F := by simpa using hg
      have h7 := g3 g hg'
      refine ⟨by omega, by omega, fun e => ?_⟩
      rcases hv g e with q | q
      · have := hown g q; omega
      · omega
theorem AppP.parts {w w0 wr : World} {b : Nat} {kind : Int} {d : Nat} {parts : List Vec} {v : Value} {na : Option Addr} {nn nc : Nat} (h : AppP w w0 wr b kind d parts parts.length v na nn nc) : ∃ F, OwnParts wr d v parts F ∧ F.Nodup ∧ ∀ b ∈ F, w0.heap.size ≤ b ∧ b < wr.heap.size := by
  obtain ⟨vals, Fs, h1, h2, ⟨hl, h3⟩, h4, h5, h6⟩ := h.ex
  rcases h3 with ⟨rfl, h0⟩ | ⟨g, cap, cur, rfl, hB, hg, hc, _, hs, ht⟩
  · have hp : parts = [] := List.eq_nil_of_length_eq_zero h0
    subst hp
    exact ⟨[], ⟨none, 0, rfl, Nat.le_refl _, .inl ⟨rfl, rfl⟩⟩, List.nodup_nil, fun _ hb => by cases hb⟩
  · have hgl := (Array.getElem?_eq_some_iff.1 hg).1
    refine ⟨g :: Fs.flatten, ⟨_, cap, rfl, hc, .inr ⟨g, cur, Fs, rfl, h2, rfl, hg, by omega, fun i hi => ⟨_, h4 i hi, ?_⟩⟩⟩, ?_, ?_⟩
    · obtain ⟨c0, c1, c2, c3, c4, c5, c6, c7, e, m0, m1, m2, m3, m4, m5, m6, m7⟩ := flat8_at vals (RowV.is8 h1 h4) i (by omega)
      have key : ∀ j, j < parts.length * 8 → cur[j]? = (vals.flatMap cl8)[j]? := fun j hj => by
        rw [← ht, List.getElem?_take_of_lt hj, Array.getElem?_toList]
      refine ⟨c0, c1, c2, c3, c4, c5, c6, c7, e, ?_, ?_, ?_, ?_, ?_, ?_, ?_, ?_⟩
      · rw [key _ (by omega)]; exact m0
      · rw [key _ (by omega)]; exact m1
      · rw [key _ (by omega)]; exact m2
      · rw [key _ (by omega)]; exact m3
      · rw [key _ (by omega)]; exact m4
      · rw [key _ (by omega)]; exact m5
      · rw [key _ (by omega)]; exact m6
      · rw [key _ (by omega)]; exact m7
    · rw [List.nodup_cons]
      exact ⟨fun hm => (h6 g hm).2.2 rfl, h5⟩
    · intro b hb
      rcases List.mem_cons.1 hb with rfl | hb
      · exact ⟨hB, hgl⟩
      · exact ⟨(h6 b hb).1, (h6 b hb).2.1⟩
/-- A row of one vector. -/
theorem own_oneP {w : World} {d lo hi : Nat} {v : Vec} {c0 c1 c2 c3 c4 c5 c6 c7 : Value} (h : Own d v (.agg #[c0, c1, c2, c3, c4, c5, c6, c7]) lo hi w) (hh : hi ≤ w.heap.size) : ∃ F, OwnParts (w.alloc (.cells #[c0, c1, c2, c3, c4, c5, c6, c7] 31)) d (.slice (some ⟨w.heap.size, 0, none⟩) 1 1) [v] F ∧ F.Nodup ∧ ∀ g ∈ F, (lo ≤ g ∧ g < hi) ∨ g = w.heap.size := by
  obtain ⟨F, g1, g2, g3⟩ := h.out
  have hb := blk_new w (.cells #[c0, c1, c2, c3, c4, c5, c6, c7] 31) rfl
  refine ⟨w.heap.size :: F, ⟨_, 1, rfl, Nat.le_refl _, .inr ⟨w.heap.size, _, [F], by simp, rfl, rfl, hb, Nat.le_refl _, fun i hi' => ?_⟩⟩, List.nodup_cons.2 ⟨fun hm => by have := (g3 _ hm).2; omega, g2⟩, fun g hg => ?_⟩
  · obtain rfl : i = 0 := by have : i < 1 := hi'; omega
    exact ⟨_, g1.kept _ _ _ _ (fun b hm => (below1 w _).block b (Nat.lt_of_lt_of_le (g3 b hm).2 hh)), ⟨_, _, _, _, _, _, _, _, rfl, rfl, rfl, rfl, rfl, rfl, rfl, rfl, rfl⟩⟩
  · rcases List.mem_cons.1 hg with rfl | hm
    · exact .inr rfl
    · exact .inl (g3 g hm)
end Go.Proofs.YtddebgmjolojeaaDoor

/- CountBytes of the reference. -/
namespace Go.Proofs.YtddebgmjolojeaaDoor
open Go.RowKit
set_option maxRecDepth 100000
set_option linter.unusedVariables false

/-- An item's variable that a region has made and filled. -/
structure BoxI (wr wx : World) (g : Nat) (z : It) : Prop where
  blk : wx.heap[g]? = some (.cells #[.int .i64 z.n, .int .i64 z.d, .string z.t] 67 (0, 0))
  ge : wr.heap.size ≤ g
  below : Below wr.heap.size wr wx
end Go.Proofs.YtddebgmjolojeaaDoor

/- CoerceVector of the reference. -/
namespace Go.Proofs.YtddebgmjolojeaaDoor
open Go.RowKit
set_option maxRecDepth 100000
set_option linter.unusedVariables false

set_option maxHeartbeats 16000000 in
theorem specCoerce (d : Nat) (v : Vec) (val : Value) (j : Int) (lo hi : Nat) (w : World) (hv : VecAt lo hi w d v val) (hhi : hi ≤ w.heap.size) (hsm : Small d v) :
    Calls Tryd.prog 37 #[val, .int .i64 j] w (ResVB (coeD d j v) (coeV j v) (coeB j v) w) := by
  have C1 := Lib.hid (fun (w1 : World) (hb : Below w.heap.size w w1) => specIsVector d v val lo hi w1 (hv.below hb hhi) (Nat.le_trans hhi hb.size) hsm)
  have IV := Lib.hid (fun (ok : OkC j v) (W : World) (y : Value) (h : VecAt 0 W.heap.size W (coeD d j v) (coeV j v) y) => (by have q := specIsVector (coeD d j v) (coeV j v) y 0 W.heap.size W h (Nat.le_refl _) (coe_small hsm ok); rw [bB_yes (coe_valid ok)] at q; exact q : Calls Tryd.prog 34 #[y] W (fun e w' => e = .returned (.bool true) ∧ Below W.heap.size W w')))
  have CF := Lib.hid (fun (q : ValidV v) (w1 : World) (hb : Below w.heap.size w w1) => (scvAll d).out v val lo hi w1 (hv.below hb hhi) (Nat.le_trans hhi hb.size) hsm (allIs_of d 3 v (Nat.le_refl _) q.1) (by have := q.1.flat.parts; omega))
  obtain ⟨VV, hVV⟩ : ∃ V, v = V := ⟨_, rfl⟩
  rw [hVV] at C1 IV CF ⊢
  have PI := Lib.hid (fun (q : ValidV VV) (d i : Nat) (hi : i < (partsV VV).length) => part_is q.1 d i hi)
  have hPV : partsV VV = partsV v := by rw [hVV]
  obtain ⟨kk, items, parts, names, cls, levels, code, env⟩ := v
  have hPV : partsV VV = parts := hPV
  rw [hPV] at PI
  obtain ⟨d', ai, ci, ap, cp, an, cn, ac, cc, al, cl, ed, rfl, hI, hN, hC, hL, hP⟩ := vecAt_open hv
  have ln : names.length ≤ 1048576 := by subst ed; exact hsm.2.2.1
  have hsp : ∀ i, i < parts.length → Small d' (parts.getD i noV) := fun i hi => by subst ed; exact hsm.part hi
  have FL := Lib.hid (fun (q : ValidV VV) => (by rw [← hVV] at q; exact q.1.flat : FlatOk kk items parts.length names cls levels code env))
  have HT := Lib.hid (fun (w1 : World) (hb : Below w.heap.size w w1) => hN.below hb hhi)
  have HI := Lib.hid (fun (w1 : World) (hb : Below w.heap.size w w1) => hI.below hb hhi)
  have CP := Lib.hid (fun (q : ValidV VV) (w1 : World) (hb : Below w.heap.size w w1) => (scpAll d').out parts ap cp lo hi w1 (hP.below hb hhi) (Nat.le_trans hhi hb.size) hsp (fun i hi => ⟨isV_three (by omega) (PI.out q d' i hi).2.2, (PI.out q d' i hi).1⟩) (by have h := q.1.flat.parts; rw [hPV] at h; omega))
  have CI := Lib.hid (fun (q : ValidV VV) (hkj : kk ≤ j) (hj3 : j ≤ 3) (k : Nat) (W : World) (hk : k < items.length) (hb : Below w.heap.size w W) => specCnv kk j (items.getD k noI) W ((FL.out q).h_items k hk).1 (FL.out q).h_kind.1 hkj hj3)
  have OC := Lib.hid (show OkC j VV ↔ ValidV VV ∧ ((kk ≠ 5 ∧ kk ≤ j ∧ j ≤ 4) ∨ (kk = 5 ∧ j = 4)) by rw [okC_iff, ← hVV]; exact Iff.rfl)
  have XL := Lib.hid (fun (o : OkC j VV) (h : j = 4) => (by subst h; rw [← hVV] at o ⊢; exact coe_list rfl o : coeV j VV = .mk 4 [] (elems VV) names [] [] 0 0 ∧ coeB j VV = true ∧ coeD d j VV = elmD d VV + 1))
  have XF := Lib.hid (fun (o : OkC j VV) (h : ¬ j = 4) => (by rw [← hVV] at o ⊢; exact coe_flat rfl o h : coeV j VV = mkN j (cnvL kk j items) names ∧ coeB j VV = true ∧ coeD d j VV = 1))
  have XA := Lib.hid (fun (h : kk = 4) => (by subst h; rw [← hVV]; exact ⟨elems_list, elmD_list ed⟩ : elems VV = parts ∧ elmD d VV = d'))
  have XG := Lib.hid (fun (h : kk = 5) => (by subst h; refine ⟨elems_fun hVV.symm, ?_⟩; rw [← hVV]; exact elmD_fun : elems VV = [VV] ∧ elmD d VV = d))
  have XC := Lib.hid (fun (h5 : kk ≠ 5) (h4 : kk ≠ 4) => (by rw [← hVV]; exact ⟨elems_items h5 h4, elmD_its h5 h4⟩ : elems VV = items.map (fun x => vecOf kk [x]) ∧ elmD d VV = 1))
  have LI := Lib.hid (fun (W : World) => l1In_any j 0 4 W)
  clear hv hI hN hC hL hP hsm hsp hVV PI hPV ed
  go_enter Tryd.func37, Tryd.ntmps37
  go_wp2_with fail
  obtain ⟨w1, hw1⟩ : ∃ W, (w.alloc (.cells #[.int .i64 kk, .slice ai items.length ci, .slice ap parts.length cp, .slice an names.length cn, .slice ac cls.length cc, .slice al levels.length cl, .int .i64 code, .int .i64 env] 31)).alloc (.cells #[.int .i64 0, .slice none 0 0, .slice none 0 0, .slice none 0 0, .slice none 0 0, .slice none 0 0, .int .i64 0, .int .i64 0] 31) = W := ⟨_, rfl⟩
  have hsz : (w.alloc (.cells #[.int .i64 kk, .slice ai items.length ci, .slice ap parts.length cp, .slice an names.length cn, .slice ac cls.length cc, .slice al levels.length cl, .int .i64 code, .int .i64 env] 31)).heap.size = w.heap.size + 1 := by simp
  have B1 := Lib.hid (show Below w.heap.size w w1 from hw1 ▸ below2 w _ _)
  have KA := Lib.hid (show w1.heap[w.heap.size]? = some (.cells #[.int .i64 kk, .slice ai items.length ci, .slice ap parts.length cp, .slice an names.length cn, .slice ac cls.length cc, .slice al levels.length cl, .int .i64 code, .int .i64 env] 31 (0, 0)) from hw1 ▸ blk_old (blk_new w _ rfl))
  have KR := Lib.hid (show w1.heap[w.heap.size + 1]? = some (.cells #[.int .i64 0, .slice none 0 0, .slice none 0 0, .slice none 0 0, .slice none 0 0, .slice none 0 0, .int .i64 0, .int .i64 0] 31 (0, 0)) from hw1 ▸ blk_new _ _ hsz.symm)
  rw [hw1]
  clear hw1 hsz
  with_reducible refine (C1.out _ B1.out).mono ?_
  rintro e w2 ⟨rfl, b⟩
  have B2 := Lib.hid (below_then B1.out b)
  have KA := Lib.hid (blk_below b KA.out)
  have KR := Lib.hid (blk_below b KR.out)
  clear b
  by_cases q : ValidV VV
  · rw [bB_yes q]
    have hkk := (FL.out q).h_kind
    have Q := Lib.hid q
    obtain ⟨k0, k1, k2, k3, k4, k5, k6, k7⟩ := vec8 KA.out
    go_wp2_with fail
    with_reducible refine (LI.out _).mono ?_
    rintro e w3 ⟨rfl, rfl⟩
    by_cases r : 0 ≤ j ∧ j ≤ 4
    · rw [decide_eq_true r]
      by_cases o : (kk ≠ 5 ∧ kk ≤ j ∧ j ≤ 4) ∨ (kk = 5 ∧ j = 4)
      · have ok := OC.out.2 ⟨q, o⟩
        replace IV := Lib.hid (IV.out ok)
        replace CF := Lib.hid (CF.out q)
        replace CP := Lib.hid (CP.out q)
        have FLQ := FL.out q
        have li := FLQ.h_len
        have h0 := FLQ.h_list
        have h5f := FLQ.h_func
        unfold lenV at li
        by_cases h5 : kk = 5
        · have XE := Lib.hid (XL.out ok (by omega))
          have XS := XG.out h5
          have EV := Lib.hid (XE.out.1.trans (by rw [XS.1]))
          have ED := Lib.hid (XE.out.2.2.trans (by rw [XS.2]))
          rw [EV.out, ED.out] at IV
          have XB := Lib.hid XE.out.2.1
          obtain rfl : j = 4 := by omega
          have hi0 := (h5f h5).1
          subst h5
          clear o ok q r XS CP CI OC XL XF XA XG XC FL FLQ li h0 h5f hkk
          rw [hi0] at KA CF ⊢
          clear hi0
          obtain ⟨W3, hW3⟩ : ∃ W, w2.alloc (.cells #[] 9) = W := ⟨_, rfl⟩
          have b3 : Below w2.heap.size w2 W3 := hW3 ▸ below1 w2 _
          have KS := Lib.hid (show W3.heap[w2.heap.size]? = some (.cells #[] 9 (0, 0)) from hW3 ▸ blk_new w2 _ rfl)
          have B3 := Lib.hid (below_then B2.out b3)
          have KA3 := Lib.hid (blk_below b3 KA.out)
          have KR3 := Lib.hid (blk_below b3 KR.out)
          have EW3 := Lib.hid hW3
          have HL2 := Lib.hid (Array.getElem?_eq_some_iff.1 KR.out).1
          clear b3 hW3 k0 k1 k2 k3 k4 k5 k6 k7
          obtain ⟨k0, k1, k2, k3, k4, k5, k6, k7⟩ := vec8 KA.out
          have hltA := (Array.getElem?_eq_some_iff.1 KA.out).1
          go_wp2_with (at_builtin; go_loud (rw [EW3.out]; refine wpList_copyTexts rfl _ _ rfl w2.heap.size _ rfl (.inr ⟨w2.heap.size, Nat.le_refl _, rfl, KS.out⟩) an cn names lo hi rfl (HT.out _ B3.out) ln (Nat.le_of_lt (Array.getElem?_eq_some_iff.1 KS.out).1) ?_))
          intro v' w5 hcp hb5
          obtain ⟨na, nc, FN, rfl, hT, hnd, hrg, hcap⟩ := hcp
          have B5 := Lib.hid (B3.out.trans (hb5.mono (by have := HL2.out; omega)))
          have KA5 := Lib.hid ((hb5.block _ (Array.getElem?_eq_some_iff.1 KA.out).1).trans KA3.out)
          have KR5 := Lib.hid ((hb5.block _ (Array.getElem?_eq_some_iff.1 KR.out).1).trans KR3.out)
          have S5 := Lib.hid hb5.size
          have S3 := Lib.hid (Array.getElem?_eq_some_iff.1 KS.out).1
          obtain ⟨w0, hw0⟩ : ∃ W, w5.alloc (.cells #[.int .i64 4, .slice none 0 0, .slice none 0 0, .slice na names.length nc, .slice none 0 0, .slice none 0 0, .int .i64 0, .int .i64 0] 31) = W := ⟨_, rfl⟩
          have b0 : Below w5.heap.size w5 w0 := hw0 ▸ below1 w5 _
          have B0 := Lib.hid (below_then B5.out b0)
          have KB := Lib.hid (show w0.heap[w5.heap.size]? = some (.cells #[.int .i64 4, .slice none 0 0, .slice none 0 0, .slice na names.length nc, .slice none 0 0, .slice none 0 0, .int .i64 0, .int .i64 0] 31 (0, 0)) from hw0 ▸ blk_new w5 _ rfl)
          have KA0 := Lib.hid (blk_below b0 KA5.out)
          have KR0 := Lib.hid (blk_below b0 KR5.out)
          have HT0 := Lib.hid (show OwnTxs w0 na names FN from hT.kept (fun g hg => b0.block g (hrg g hg).2))
          have HRG := Lib.hid hrg
          have HND := Lib.hid hnd
          have HCP := Lib.hid hcap
          have EW0 := Lib.hid hw0
          have Z0 := Lib.hid (show w0.heap.size = w5.heap.size + 1 by rw [← hw0]; simp)
          clear hltA
          have hltA := (Array.getElem?_eq_some_iff.1 KA5.out).1
          have hltR := (Array.getElem?_eq_some_iff.1 KR5.out).1
          clear b0 hw0 hT hrg hnd hcap k0 k1 k2 k3 k4 k5 k6 k7 hb5 KA3 KR3
          obtain ⟨k0, k1, k2, k3, k4, k5, k6, k7⟩ := vec8 KA5.out
          go_wp2_with fail
          rw [EW0.out]
          with_reducible refine (CF.out _ B0.out).mono ?_
          rintro e w6 ⟨y, rfl, ho, b⟩
          obtain ⟨yk, ya1, yn1, ym1, ya2, yn2, ym2, ya3, yn3, ym3, ya4, yn4, ym4, ya5, yn5, ym5, yc, ye, rfl⟩ := ho.agg
          obtain ⟨FP, hp, hnp, hrp⟩ := own_oneP ho (Nat.le_refl _)
          clear k0 k1 k2 k3 k4 k5 k6 k7 hltA hltR
          have hS3 := S3.out
          have hS5 := S5.out
          have hL2 := HL2.out
          have hZ0 := Z0.out
          have hS6 := b.size
          have B6 := Lib.hid (below_then B0.out b)
          obtain ⟨w7, hw7⟩ : ∃ W, w6.alloc (.cells #[.int .i64 yk, .slice ya1 yn1 ym1, .slice ya2 yn2 ym2, .slice ya3 yn3 ym3, .slice ya4 yn4 ym4, .slice ya5 yn5 ym5, .int .i64 yc, .int .i64 ye] 31) = W := ⟨_, rfl⟩
          have b7 : Below w6.heap.size w6 w7 := hw7 ▸ below1 w6 _
          have hS7 : w7.heap.size = w6.heap.size + 1 := by rw [← hw7]; simp
          have HP := Lib.hid (show OwnParts w7 _ _ _ FP from hw7 ▸ hp)
          have HRP := Lib.hid hrp
          have HNP := Lib.hid hnp
          have B7 := Lib.hid (below_then B6.out b7)
          have KB6 := Lib.hid (blk_below b7 (blk_below b KB.out))
          have KA6 := Lib.hid (blk_below b7 (blk_below b KA0.out))
          have KR6 := Lib.hid (blk_below b7 (blk_below b KR0.out))
          have KB5 := Lib.hid (blk_below b KB.out)
          have HT6 := Lib.hid (show OwnTxs w7 na names FN from (HT0.out.kept (fun g hg => b.block g (by have := HRG.out g hg; omega))).kept (fun g hg => b7.block g (by have := HRG.out g hg; omega)))
          have EW7 := Lib.hid hw7
          clear hp hrp hnp b ho b7 hw7
          obtain ⟨y0, y1, y2, y3, y4, y5, y6, y7⟩ := vec8 KB5.out
          obtain ⟨e0, e1, e2, e3, e4, e5, e6, e7⟩ := free8 KB5.out
          have hAb : ¬ w.heap.size = w5.heap.size := by omega
          have hRb : ¬ w.heap.size + 1 = w5.heap.size := by omega
          have h56 : w5.heap.size < w6.heap.size := by omega
          go_upto_region 8 with (fail)
          obtain ⟨wx, hwx⟩ : ∃ W, w7.setCell ⟨w5.heap.size, 2, none⟩ (.slice (some ⟨w6.heap.size, 0, none⟩) 1 1) = W := ⟨_, rfl⟩
          have SX := Lib.hid (show wx.heap.size = w7.heap.size by rw [← hwx]; simp)
          have BX := Lib.hid (show Below w.heap.size w wx from hwx ▸ B7.out.setCell (p := ⟨w5.heap.size, 2, none⟩) (show w.heap.size ≤ w5.heap.size by omega) _)
          have KBX := Lib.hid (show wx.heap[w5.heap.size]? = some (.cells #[.int .i64 4, .slice none 0 0, .slice (some ⟨w6.heap.size, 0, none⟩) 1 1, .slice na names.length nc, .slice none 0 0, .slice none 0 0, .int .i64 0, .int .i64 0] 31 (0, 0)) from hwx ▸ Joins.block_setCell KB6.out _)
          have KAX := Lib.hid (show wx.heap[w.heap.size]? = _ from hwx ▸ (Below.heap_setCell _ _ _ _ hAb).trans KA6.out)
          have KRX := Lib.hid (show wx.heap[w.heap.size + 1]? = _ from hwx ▸ (Below.heap_setCell _ _ _ _ hRb).trans KR6.out)
          have OX := Lib.hid (show Own (d + 1) (.mk 4 [] [VV] names [] [] 0 0) (.agg #[.int .i64 4, .slice none 0 0, .slice (some ⟨w6.heap.size, 0, none⟩) 1 1, .slice na names.length nc, .slice none 0 0, .slice none 0 0, .int .i64 0, .int .i64 0]) (w.heap.size + 2) wx.heap.size wx from own_listV (w := wx) (d := d) (parts := [VV]) (lo := w.heap.size + 2) (hi := wx.heap.size) (show OwnParts wx d (.slice (some ⟨w6.heap.size, 0, none⟩) 1 1) [VV] FP from hwx ▸ HP.out.kept (fun g hg => Below.heap_setCell _ _ _ _ (by have := HRP.out g hg; show g ≠ w5.heap.size; omega))) (show OwnTxs wx na names FN from hwx ▸ HT6.out.kept (fun g hg => Below.heap_setCell _ _ _ _ (by have := HRG.out g hg; show g ≠ w5.heap.size; omega))) HNP.out HND.out (fun g hg => by have := HRP.out g hg; have := SX.out; omega) (fun g hg => by have := HRG.out g hg; have := SX.out; omega) (fun g hg hh => by have := HRP.out g hg; have := HRG.out g hh; omega) HCP.out)
          have HHX := Lib.hid (Nat.le_refl wx.heap.size)
          have LOX := Lib.hid (Nat.lt_succ_self (w.heap.size + 1))
          rw [← World.setCell_alloc_past _ _ _ _ h56, EW7.out, hwx]
          clear hwx y0 y1 y2 y3 y4 y5 y6 y7 e0 e1 e2 e3 e4 e5 e6 e7
          obtain ⟨k0, k1, k2, k3, k4, k5, k6, k7⟩ := vec8 KAX.out
          go_wp2
          go_loopw [7] (fun i wr => i = .int .i64 0 ∧ wr = wx) (fun _ _ => 0)
          case atStart => exact ⟨rfl, rfl⟩
          case round =>
            obtain ⟨rfl, rfl⟩ := hrel
            obtain ⟨y0, y1, y2, y3, y4, y5, y6, y7⟩ := vec8 KBX.out
            go_wp2_with fail
            with_reducible refine (IV.out wr _ (OX.out.vat HHX.out)).mono ?_
            rintro e w9 ⟨rfl, b⟩
            have B9 := Lib.hid (below_then BX.out b)
            have KB9 := Lib.hid (blk_below b KBX.out)
            have KR9 := Lib.hid (blk_below b KRX.out)
            have O9 := Lib.hid (OX.out.below b HHX.out)
            have S9 := Lib.hid b.size
            clear b y0 y1 y2 y3 y4 y5 y6 y7
            obtain ⟨y0, y1, y2, y3, y4, y5, y6, y7⟩ := vec8 KB9.out
            obtain ⟨z0, z1, z2, z3, z4, z5, z6, z7⟩ := vec8 KR9.out
            obtain ⟨f0, f1, f2, f3, f4, f5, f6, f7⟩ := free8 KR9.out
            go_wp2
            rw [EV.out, ED.out, XB.out]
            exact vec_endS rfl rfl rfl rfl KR9.out ⟨_, rfl, (O9.out.put8 LOX.out _ _ _ _ _ _ _ _).wide (by have := LOX.out; omega) (by rw [put8_size]; exact Nat.le_trans HHX.out S9.out), put8_below B9.out (Nat.le_succ _)⟩
        · by_cases h4 : j = 4
          · have XE := Lib.hid (XL.out ok h4)
            have XB := Lib.hid XE.out.2.1
            subst h4
            by_cases h44 : kk = 4
            · have XS := XA.out h44
              have EV := Lib.hid (XE.out.1.trans (by rw [XS.1]))
              have ED := Lib.hid (XE.out.2.2.trans (by rw [XS.2]))
              rw [EV.out, ED.out] at IV
              have hi0 := h0 h44
              subst h44
              clear o ok q r XS CF CI OC XL XF XA XG XC FL FLQ li h0 h5f hkk h5
              rw [hi0] at KA ⊢
              clear hi0
              obtain ⟨W3, hW3⟩ : ∃ W, w2.alloc (.cells #[] 9) = W := ⟨_, rfl⟩
              have b3 : Below w2.heap.size w2 W3 := hW3 ▸ below1 w2 _
              have KS := Lib.hid (show W3.heap[w2.heap.size]? = some (.cells #[] 9 (0, 0)) from hW3 ▸ blk_new w2 _ rfl)
              have B3 := Lib.hid (below_then B2.out b3)
              have KA3 := Lib.hid (blk_below b3 KA.out)
              have KR3 := Lib.hid (blk_below b3 KR.out)
              have EW3 := Lib.hid hW3
              have HL2 := Lib.hid (Array.getElem?_eq_some_iff.1 KR.out).1
              clear b3 hW3 k0 k1 k2 k3 k4 k5 k6 k7
              obtain ⟨k0, k1, k2, k3, k4, k5, k6, k7⟩ := vec8 KA.out
              have hltA := (Array.getElem?_eq_some_iff.1 KA.out).1
              go_wp2_with (at_builtin; go_loud (rw [EW3.out]; refine wpList_copyTexts rfl _ _ rfl w2.heap.size _ rfl (.inr ⟨w2.heap.size, Nat.le_refl _, rfl, KS.out⟩) an cn names lo hi rfl (HT.out _ B3.out) ln (Nat.le_of_lt (Array.getElem?_eq_some_iff.1 KS.out).1) ?_))
              intro v' w5 hcp hb5
              obtain ⟨na, nc, FN, rfl, hT, hnd, hrg, hcap⟩ := hcp
              have B5 := Lib.hid (B3.out.trans (hb5.mono (by have := HL2.out; omega)))
              have KA5 := Lib.hid ((hb5.block _ (Array.getElem?_eq_some_iff.1 KA.out).1).trans KA3.out)
              have KR5 := Lib.hid ((hb5.block _ (Array.getElem?_eq_some_iff.1 KR.out).1).trans KR3.out)
              have S5 := Lib.hid hb5.size
              have S3 := Lib.hid (Array.getElem?_eq_some_iff.1 KS.out).1
              obtain ⟨w0, hw0⟩ : ∃ W, w5.alloc (.cells #[.int .i64 4, .slice none 0 0, .slice none 0 0, .slice na names.length nc, .slice none 0 0, .slice none 0 0, .int .i64 0, .int .i64 0] 31) = W := ⟨_, rfl⟩
              have b0 : Below w5.heap.size w5 w0 := hw0 ▸ below1 w5 _
              have B0 := Lib.hid (below_then B5.out b0)
              have KB := Lib.hid (show w0.heap[w5.heap.size]? = some (.cells #[.int .i64 4, .slice none 0 0, .slice none 0 0, .slice na names.length nc, .slice none 0 0, .slice none 0 0, .int .i64 0, .int .i64 0] 31 (0, 0)) from hw0 ▸ blk_new w5 _ rfl)
              have KA0 := Lib.hid (blk_below b0 KA5.out)
              have KR0 := Lib.hid (blk_below b0 KR5.out)
              have HT0 := Lib.hid (show OwnTxs w0 na names FN from hT.kept (fun g hg => b0.block g (hrg g hg).2))
              have HRG := Lib.hid hrg
              have HND := Lib.hid hnd
              have HCP := Lib.hid hcap
              have EW0 := Lib.hid hw0
              have Z0 := Lib.hid (show w0.heap.size = w5.heap.size + 1 by rw [← hw0]; simp)
              clear hltA
              have hltA := (Array.getElem?_eq_some_iff.1 KA5.out).1
              have hltR := (Array.getElem?_eq_some_iff.1 KR5.out).1
              clear b0 hw0 hT hrg hnd hcap k0 k1 k2 k3 k4 k5 k6 k7 hb5 KA3 KR3
              obtain ⟨k0, k1, k2, k3, k4, k5, k6, k7⟩ := vec8 KA5.out
              go_wp2_with fail
              rw [EW0.out]
              with_reducible refine (CP.out _ B0.out).mono ?_
              rintro e w6 ⟨v, FP, rfl, hp, hnp, hrp, b, _⟩
              obtain ⟨ap', cp', rfl⟩ := hp.form
              clear k0 k1 k2 k3 k4 k5 k6 k7 hltA hltR
              have hS3 := S3.out
              have hS5 := S5.out
              have hL2 := HL2.out
              have hZ0 := Z0.out
              have B6 := Lib.hid (below_then B0.out b)
              have KB6 := Lib.hid (blk_below b KB.out)
              have KA6 := Lib.hid (blk_below b KA0.out)
              have KR6 := Lib.hid (blk_below b KR0.out)
              have hS6 := b.size
              have HT6 := Lib.hid (show OwnTxs w6 na names FN from HT0.out.kept (fun g hg => b.block g (by have := HRG.out g hg; omega)))
              have HP := Lib.hid hp
              have HRP := Lib.hid hrp
              have HNP := Lib.hid hnp
              clear hp hrp hnp b
              obtain ⟨k0, k1, k2, k3, k4, k5, k6, k7⟩ := vec8 KA6.out
              obtain ⟨y0, y1, y2, y3, y4, y5, y6, y7⟩ := vec8 KB6.out
              obtain ⟨e0, e1, e2, e3, e4, e5, e6, e7⟩ := free8 KB6.out
              have hAb : ¬ w.heap.size = w5.heap.size := by omega
              have hRb : ¬ w.heap.size + 1 = w5.heap.size := by omega
              go_upto_region 8 with (fail)
              obtain ⟨wx, hwx⟩ : ∃ W, w6.setCell ⟨w5.heap.size, 2, none⟩ (.slice ap' parts.length cp') = W := ⟨_, rfl⟩
              have SX := Lib.hid (show wx.heap.size = w6.heap.size by rw [← hwx]; simp)
              have BX := Lib.hid (show Below w.heap.size w wx from hwx ▸ B6.out.setCell (p := ⟨w5.heap.size, 2, none⟩) (show w.heap.size ≤ w5.heap.size by omega) _)
              have KBX := Lib.hid (show wx.heap[w5.heap.size]? = some (.cells #[.int .i64 4, .slice none 0 0, .slice ap' parts.length cp', .slice na names.length nc, .slice none 0 0, .slice none 0 0, .int .i64 0, .int .i64 0] 31 (0, 0)) from hwx ▸ Joins.block_setCell KB6.out _)
              have KAX := Lib.hid (show wx.heap[w.heap.size]? = _ from hwx ▸ (Below.heap_setCell _ _ _ _ hAb).trans KA6.out)
              have KRX := Lib.hid (show wx.heap[w.heap.size + 1]? = _ from hwx ▸ (Below.heap_setCell _ _ _ _ hRb).trans KR6.out)
              have OX := Lib.hid (own_listV (w := wx) (lo := w.heap.size + 2) (hi := wx.heap.size) (show OwnParts wx _ _ parts FP from hwx ▸ HP.out.kept (fun g hg => Below.heap_setCell _ _ _ _ (by have := HRP.out g hg; show g ≠ w5.heap.size; omega))) (show OwnTxs wx na names FN from hwx ▸ HT6.out.kept (fun g hg => Below.heap_setCell _ _ _ _ (by have := HRG.out g hg; show g ≠ w5.heap.size; omega))) HNP.out HND.out (fun g hg => by have := HRP.out g hg; have := SX.out; omega) (fun g hg => by have := HRG.out g hg; have := SX.out; omega) (fun g hg hh => by have := HRP.out g hg; have := HRG.out g hh; omega) HCP.out)
              have HHX := Lib.hid (Nat.le_refl wx.heap.size)
              have LOX := Lib.hid (Nat.lt_succ_self (w.heap.size + 1))
              rw [hwx]
              clear hwx k0 k1 k2 k3 k4 k5 k6 k7 y0 y1 y2 y3 y4 y5 y6 y7 e0 e1 e2 e3 e4 e5 e6 e7
              obtain ⟨k0, k1, k2, k3, k4, k5, k6, k7⟩ := vec8 KAX.out
              go_wp2
              go_loopw [7] (fun i wr => i = .int .i64 0 ∧ wr = wx) (fun _ _ => 0)
              case atStart => exact ⟨rfl, rfl⟩
              case round =>
                obtain ⟨rfl, rfl⟩ := hrel
                obtain ⟨y0, y1, y2, y3, y4, y5, y6, y7⟩ := vec8 KBX.out
                go_wp2_with fail
                with_reducible refine (IV.out wr _ (OX.out.vat HHX.out)).mono ?_
                rintro e w9 ⟨rfl, b⟩
                have B9 := Lib.hid (below_then BX.out b)
                have KB9 := Lib.hid (blk_below b KBX.out)
                have KR9 := Lib.hid (blk_below b KRX.out)
                have O9 := Lib.hid (OX.out.below b HHX.out)
                have S9 := Lib.hid b.size
                clear b y0 y1 y2 y3 y4 y5 y6 y7
                obtain ⟨y0, y1, y2, y3, y4, y5, y6, y7⟩ := vec8 KB9.out
                obtain ⟨z0, z1, z2, z3, z4, z5, z6, z7⟩ := vec8 KR9.out
                obtain ⟨f0, f1, f2, f3, f4, f5, f6, f7⟩ := free8 KR9.out
                go_wp2
                rw [EV.out, ED.out, XB.out]
                exact vec_endS rfl rfl rfl rfl KR9.out ⟨_, rfl, (O9.out.put8 LOX.out _ _ _ _ _ _ _ _).wide (by have := LOX.out; omega) (by rw [put8_size]; exact Nat.le_trans HHX.out S9.out), put8_below B9.out (Nat.le_succ _)⟩
            · have XS := XC.out h5 h44
              have EV := Lib.hid (XE.out.1.trans (by rw [XS.1]))
              have ED := Lib.hid (XE.out.2.2.trans (by rw [XS.2]))
              rw [EV.out, ED.out] at IV
              rw [if_neg h5] at li
              have li : items.length ≤ 40 := by omega
              have hk3 : kk ≤ 3 := by omega
              clear o ok q r XS CF CP CI OC XL XF XA XG XC FL FLQ h0 h5f h44 h5
              obtain ⟨W3, hW3⟩ : ∃ W, w2.alloc (.cells #[] 9) = W := ⟨_, rfl⟩
              have b3 : Below w2.heap.size w2 W3 := hW3 ▸ below1 w2 _
              have KS := Lib.hid (show W3.heap[w2.heap.size]? = some (.cells #[] 9 (0, 0)) from hW3 ▸ blk_new w2 _ rfl)
              have B3 := Lib.hid (below_then B2.out b3)
              have KA3 := Lib.hid (blk_below b3 KA.out)
              have KR3 := Lib.hid (blk_below b3 KR.out)
              have EW3 := Lib.hid hW3
              have HL2 := Lib.hid (Array.getElem?_eq_some_iff.1 KR.out).1
              clear b3 hW3 k0 k1 k2 k3 k4 k5 k6 k7
              obtain ⟨k0, k1, k2, k3, k4, k5, k6, k7⟩ := vec8 KA.out
              have hltA := (Array.getElem?_eq_some_iff.1 KA.out).1
              go_wp2_with (at_builtin; go_loud (rw [EW3.out]; refine wpList_copyTexts rfl _ _ rfl w2.heap.size _ rfl (.inr ⟨w2.heap.size, Nat.le_refl _, rfl, KS.out⟩) an cn names lo hi rfl (HT.out _ B3.out) ln (Nat.le_of_lt (Array.getElem?_eq_some_iff.1 KS.out).1) ?_))
              intro v' w5 hcp hb5
              obtain ⟨na, nc, FN, rfl, hT, hnd, hrg, hcap⟩ := hcp
              have B5 := Lib.hid (B3.out.trans (hb5.mono (by have := HL2.out; omega)))
              have KA5 := Lib.hid ((hb5.block _ (Array.getElem?_eq_some_iff.1 KA.out).1).trans KA3.out)
              have KR5 := Lib.hid ((hb5.block _ (Array.getElem?_eq_some_iff.1 KR.out).1).trans KR3.out)
              have S5 := Lib.hid hb5.size
              have S3 := Lib.hid (Array.getElem?_eq_some_iff.1 KS.out).1
              obtain ⟨w0, hw0⟩ : ∃ W, w5.alloc (.cells #[.int .i64 4, .slice none 0 0, .slice none 0 0, .slice na names.length nc, .slice none 0 0, .slice none 0 0, .int .i64 0, .int .i64 0] 31) = W := ⟨_, rfl⟩
              have b0 : Below w5.heap.size w5 w0 := hw0 ▸ below1 w5 _
              have B0 := Lib.hid (below_then B5.out b0)
              have KB := Lib.hid (show w0.heap[w5.heap.size]? = some (.cells #[.int .i64 4, .slice none 0 0, .slice none 0 0, .slice na names.length nc, .slice none 0 0, .slice none 0 0, .int .i64 0, .int .i64 0] 31 (0, 0)) from hw0 ▸ blk_new w5 _ rfl)
              have KA0 := Lib.hid (blk_below b0 KA5.out)
              have KR0 := Lib.hid (blk_below b0 KR5.out)
              have HT0 := Lib.hid (show OwnTxs w0 na names FN from hT.kept (fun g hg => b0.block g (hrg g hg).2))
              have HRG := Lib.hid hrg
              have HND := Lib.hid hnd
              have HCP := Lib.hid hcap
              have EW0 := Lib.hid hw0
              have Z0 := Lib.hid (show w0.heap.size = w5.heap.size + 1 by rw [← hw0]; simp)
              clear hltA
              have hltA := (Array.getElem?_eq_some_iff.1 KA5.out).1
              have hltR := (Array.getElem?_eq_some_iff.1 KR5.out).1
              clear b0 hw0 hT hrg hnd hcap k0 k1 k2 k3 k4 k5 k6 k7 hb5 KA3 KR3
              obtain ⟨k0, k1, k2, k3, k4, k5, k6, k7⟩ := vec8 KA5.out
              go_wp2
              rw [EW0.out]
              clear k0 k1 k2 k3 k4 k5 k6 k7 hltA hltR
              have hS3 := S3.out
              have hS5 := S5.out
              have hL2 := HL2.out
              have hZ0 := Z0.out
              obtain ⟨n, hn⟩ : ∃ n, items.length = n := ⟨_, rfl⟩
              obtain ⟨PS, hS⟩ : ∃ L : List Vec, items.map (fun x => vecOf kk [x]) = L := ⟨_, rfl⟩
              have SL := Lib.hid (show PS.length = n by rw [← hS, ← hn]; simp)
              have SXA := Lib.hid (fun i (hi : i < n) => (by rw [← hS]; simp [List.getD_eq_getElem?_getD, hn.symm ▸ hi] : PS.getD i noV = vecOf kk [items.getD i noI]))
              rw [hS] at IV EV
              rw [hn] at KA0 li
              have HI0 := Lib.hid (fun (k : Nat) (hk : k < n) (wr : World) (kp : ∀ g, g < w0.heap.size → g ≠ w5.heap.size → wr.heap[g]? = w0.heap[g]?) => (HI.out w0 B0.out).loopK (.inr (by omega)) (by omega) kp (i := k) (by omega))
              have ST := Lib.hid (show AppP w w0 w0 w5.heap.size 4 1 PS 0 (.slice none 0 0) na names.length nc from AppP.start KB.out B0.out (by omega))
              rw [hn]
              clear hn hS
              obtain ⟨b, hb⟩ : ∃ b, w5.heap.size = b := ⟨_, rfl⟩
              rw [hb] at ST HI0 HRG hS5 hZ0 ⊢
              have hltA0 := (Array.getElem?_eq_some_iff.1 KA0.out).1
              clear hb EW0
              go_loopw [7] (fun i wr => ∃ (k : Nat) (sp : Option Addr) (np cp2 : Nat), k ≤ n ∧ i = .int .i64 k ∧ AppP w w0 wr b 4 1 PS k (.slice sp np cp2) na names.length nc) (fun i _ => n - (intOf i).toNat)
              case atStart => exact ⟨0, none, 0, 0, Nat.zero_le _, rfl, ST.out⟩
              case round =>
                obtain ⟨k, sp, np, cp2, hk, rfl, hap⟩ := hrel
                have AP := Lib.hid hap
                have KAr := Lib.hid (hap.blk KA0.out (by omega))
                have hlA := (Array.getElem?_eq_some_iff.1 KAr.out).1
                clear hap
                obtain ⟨k0, k1, k2, k3, k4, k5, k6, k7⟩ := vec8 KAr.out
                by_cases hlt : k < n
                · obtain ⟨ba, off, rfl, hbB, c0, c1, c2⟩ := HI0.out k hlt wr AP.out.kept
                  have SX := Lib.hid (SXA.out k hlt)
                  obtain ⟨x, hx⟩ : ∃ x : It, items.getD k noI = x := ⟨_, rfl⟩
                  rw [hx] at c0 c1 c2 SX
                  have hbw : ba < wr.heap.size := Nat.lt_of_lt_of_le hbB AP.out.size
                  obtain ⟨vals, Fs, v1, v2, v3, v4, v5, v6⟩ := AP.out.ex
                  have v4 := Lib.hid v4
                  have v6 := Lib.hid v6
                  have RW0 := Lib.hid v3
                  have LN := Lib.hid (show k ≤ 1048576 by omega)
                  clear hx v3
                  go_upto_region 13 with (fail)
                  obtain ⟨w8, hw8⟩ : ∃ W, wr.alloc (.cells #[.int .i64 x.n, .int .i64 x.d, .string x.t] 67) = W := ⟨_, rfl⟩
                  have BW8 := Lib.hid (show Below wr.heap.size wr w8 from hw8 ▸ below1 wr _)
                  have S8 := Lib.hid (show w8.heap.size = wr.heap.size + 1 by rw [← hw8]; simp)
                  have X1 := Lib.hid (show w8.heap[wr.heap.size]? = some (.cells #[.int .i64 x.n, .int .i64 x.d, .string x.t] 67 (0, 0)) from hw8 ▸ blk_new wr _ rfl)
                  rw [hw8]
                  clear hw8
                  have hAPs := AP.out.size
                  have FAR := Lib.hid (fun (q : Nat × TypeId × Array Value) (hq : q ∈ ([(wr.heap.size, 67, #[.int .i64 x.n, .int .i64 x.d, .string x.t]), (w.heap.size, 31, #[.int .i64 kk, .slice (some ⟨ba, off, none⟩) n ci, .slice ap parts.length cp, .slice an names.length cn, .slice ac cls.length cc, .slice al levels.length cl, .int .i64 code, .int .i64 env]), (b, 31, #[.int .i64 4, .slice none 0 0, .slice sp np cp2, .slice na names.length nc, .slice none 0 0, .slice none 0 0, .int .i64 0, .int .i64 0])] : List (Nat × TypeId × Array Value))) (j' : Nat) (hj' : (Value.slice sp np cp2).ownBlock = some j') => (by
                    have hr := AP.out.row j' hj'
                    have hl := AP.out.lt
                    simp only [List.mem_cons, List.not_mem_nil, or_false] at hq
                    rcases hq with rfl | rfl | rfl <;> (simp only; omega) : q.1 ≠ j'))
                  have H := Lib.hid (show HeldC w w8 ([(wr.heap.size, 67, #[.int .i64 x.n, .int .i64 x.d, .string x.t]), (w.heap.size, 31, #[.int .i64 kk, .slice (some ⟨ba, off, none⟩) n ci, .slice ap parts.length cp, .slice an names.length cn, .slice ac cls.length cc, .slice al levels.length cl, .int .i64 code, .int .i64 env]), (b, 31, #[.int .i64 4, .slice none 0 0, .slice sp np cp2, .slice na names.length nc, .slice none 0 0, .slice none 0 0, .int .i64 0, .int .i64 0])]) from ⟨below_then AP.out.below BW8.out, fun q hq => by
                    simp only [List.mem_cons, List.not_mem_nil, or_false] at hq
                    rcases hq with rfl | rfl | rfl
                    · exact X1.out
                    · exact blk_below BW8.out KAr.out
                    · exact blk_below BW8.out AP.out.vec⟩)
                  refine run_region_seq (ops := (opsOf Tryd.f37 13)) (S := fun w' => HeldC w w' ([(wr.heap.size, 67, #[.int .i64 x.n, .int .i64 x.d, .string x.t]), (w.heap.size, 31, #[.int .i64 kk, .slice (some ⟨ba, off, none⟩) n ci, .slice ap parts.length cp, .slice an names.length cn, .slice ac cls.length cc, .slice al levels.length cl, .int .i64 code, .int .i64 env]), (b, 31, #[.int .i64 4, .slice none 0 0, .slice sp np cp2, .slice na names.length nc, .slice none 0 0, .slice none 0 0, .int .i64 0, .int .i64 0])])) [(0, true), (1, true), (2, true), (3, true), (4, true), (5, false), (6, true), (7, false), (8, false), (9, true), (10, false)] (by kernel_rfl) (by kernel_rfl) (by kernel_rfl) H.out ?_
                  refine runC_partV (b := b) (by kernel_rfl) (show opAt (opsOf Tryd.f37 13) 0 = some (some 72, .fieldAddr 31 (.tmp 6) 2, none) from by kernel_rfl) (by kernel_rfl) (by kernel_rfl) (by kernel_rfl) ?_
                  refine runC_cell (b := b) (j := 2) (v := .slice sp np cp2) load_vecs (show opAt (opsOf Tryd.f37 13) 1 = some (some 73, .load 29 (.tmp 72), none) from by kernel_rfl) (by kernel_rfl) (by kernel_rfl) (by kernel_rfl) (List.Mem.tail _ (List.Mem.tail _ (List.Mem.head _))) rfl ?_
                  refine runC_partV (b := w.heap.size) (by kernel_rfl) (show opAt (opsOf Tryd.f37 13) 2 = some (some 74, .fieldAddr 31 (.tmp 2) 0, none) from by kernel_rfl) (by kernel_rfl) (by kernel_rfl) (by kernel_rfl) ?_
                  refine runC_cell (b := w.heap.size) (j := 0) (v := .int .i64 kk) load_int (show opAt (opsOf Tryd.f37 13) 3 = some (some 75, .load 3 (.tmp 74), none) from by kernel_rfl) (by kernel_rfl) (by kernel_rfl) (by kernel_rfl) (List.Mem.tail _ (List.Mem.head _)) rfl ?_
                  refine runC_itm (b := wr.heap.size) (show opAt (opsOf Tryd.f37 13) 4 = some (some 76, .load 67 (.tmp 8), none) from by kernel_rfl) (by kernel_rfl) (by kernel_rfl) (by kernel_rfl) (List.Mem.head _) ?_
                  refine run_build_item x (show opAt (opsOf Tryd.f37 13) 5 = some (some 77, .buildSlice 28 1 #[(0, (.tmp 76))], none) from by kernel_rfl) (by kernel_rfl) (by kernel_rfl) (by kernel_rfl) (fun w9 hw9 => ?_)
                  have K9 := Lib.hid (show w9.heap[w8.heap.size]? = some (.cells #[.int .i64 x.n, .int .i64 x.d, .string x.t] 67 (0, 0)) from hw9 ▸ blk_new w8 _ rfl)
                  have b9 : Below w8.heap.size w8 w9 := hw9 ▸ below1 w8 _
                  have HO := Lib.hid (show Own 1 (vecOf kk [x]) (.agg #[.int .i64 kk, .slice (some ⟨w8.heap.size, 0, none⟩) 1 1, .slice none 0 0, .slice none 0 0, .slice none 0 0, .slice none 0 0, .int .i64 0, .int .i64 0]) wr.heap.size w9.heap.size w9 from (own_one (k := kk) K9.out).wide (by have := S8.out; omega) (by first | (rw [hw9]; simp; done) | (rw [← hw9]; simp; done)))
                  have BW := Lib.hid (below_then BW8.out b9)
                  refine ⟨heldC_call H.out b9, ?_⟩
                  have H := Lib.hid (heldC_call H.out b9)
                  have RW := Lib.hid (ownsRow_below (ownsRow_below RW0.out BW8.out) b9)
                  have HS9 := Lib.hid b9.size
                  clear b9 hw9
                  refine run_bldI (k := kk) (sa := some ⟨w8.heap.size, 0, none⟩) (n := 1) (m := 1) (show opAt (opsOf Tryd.f37 13) 6 = some (some 78, .build 31 #[(0, (.tmp 75)), (1, (.tmp 77))], none) from by kernel_rfl) (by kernel_rfl) (by kernel_rfl) (by kernel_rfl) (by kernel_rfl) ?_
                  refine tail_vec3 (c0 := .int .i64 kk) (c1 := .slice (some ⟨w8.heap.size, 0, none⟩) 1 1) (c2 := .slice none 0 0) (c3 := .slice none 0 0) (c4 := .slice none 0 0) (c5 := .slice none 0 0) (c6 := .int .i64 0) (c7 := .int .i64 0) (by intro u hu; simp only [List.mem_cons, List.not_mem_nil, or_false] at hu; rcases hu with rfl | rfl | rfl | rfl | rfl | rfl | rfl | rfl <;> rfl) (show opAt (opsOf Tryd.f37 13) 7 = some (some 79, .buildSlice 29 1 #[(0, (.tmp 78))], none) from by kernel_rfl) (by kernel_rfl) (by kernel_rfl) (show opAt (opsOf Tryd.f37 13) 8 = some (some 80, .call { callee := .builtin .append, args := [(.tmp 73), (.tmp 79)].toArray, argTypes := [29, 29].toArray }, none) from by kernel_rfl) (by kernel_rfl) (fun _ => by kernel_rfl) (show opAt (opsOf Tryd.f37 13) 9 = some (some 81, .fieldAddr 31 (.tmp 6) 2, none) from by kernel_rfl) (by kernel_rfl) (by kernel_rfl) (fun _ _ => by kernel_rfl) (show opAt (opsOf Tryd.f37 13) 10 = some (none, .store 29 (.tmp 81) (.tmp 80), none) from by kernel_rfl) (by kernel_rfl) (by kernel_rfl) H.out RW.out LN.out (Nat.le_trans AP.out.size BW.out.size) (Nat.le_trans AP.out.ge (Nat.le_of_lt AP.out.lt)) (List.Mem.tail _ (List.Mem.tail _ (List.Mem.head _))) rfl AP.out.lt AP.out.ge (fun q hq => FAR.out q hq) ?_
                  rintro v' W ⟨s2, n2, c2', rfl⟩ hK hO hB hZ hM hG
                  simp only [putAll, Act.put, List.setIfInBounds_toArray, List.set_cons_zero, List.set_cons_succ]
                  have AN := Lib.hid (AP.out.next BW.out (by rw [SX.out]; exact HO.out) v1 v2 v4.out v5 v6.out hK hO hB hZ hM hG)
                  clear hK hO hB hG hZ hM H FAR LN
                  go_wp2
                  go_roundw
                  case rel => first | exact ⟨k + 1, _, _, _, by omega, by go_num, AN.out⟩ | ((repeat apply Exists.intro); exact ⟨⟨k + 1, _, _, _, by omega, by go_num, AN.out⟩, rfl⟩)
                  case measure => simp [intOf]; omega
                · obtain rfl : k = n := by omega
                  have KBX := Lib.hid AP.out.vec
                  have KRX := Lib.hid (AP.out.blk KR0.out (by omega))
                  have BX := Lib.hid AP.out.below
                  obtain ⟨FP, hp, hnp, hrp⟩ := AppP.parts (show AppP w w0 wr b 4 1 PS PS.length (.slice sp np cp2) na names.length nc from by rw [SL.out]; exact AP.out)
                  obtain ⟨q1, q2, hq⟩ := hp.form
                  simp only [Value.slice.injEq] at hq
                  obtain ⟨rfl, rfl, rfl⟩ := hq
                  have hAPs := AP.out.size
                  have OX := Lib.hid (own_listV (lo := w.heap.size + 2) (hi := wr.heap.size) hp (HT0.out.kept (fun g hg => AP.out.kept g (by have := HRG.out g hg; omega) (by have := HRG.out g hg; omega))) hnp HND.out (fun g hg => by have := hrp g hg; omega) (fun g hg => by have := HRG.out g hg; omega) (fun g hg hh => by have := hrp g hg; have := HRG.out g hh; omega) HCP.out)
                  have HHX := Lib.hid (Nat.le_refl wr.heap.size)
                  have LOX := Lib.hid (Nat.lt_succ_self (w.heap.size + 1))
                  clear hp hnp hrp
                  obtain ⟨y0, y1, y2, y3, y4, y5, y6, y7⟩ := vec8 KBX.out
                  go_wp2_with fail
                  with_reducible refine (IV.out wr _ (OX.out.vat HHX.out)).mono ?_
                  rintro e w9 ⟨rfl, b⟩
                  have B9 := Lib.hid (below_then BX.out b)
                  have KB9 := Lib.hid (blk_below b KBX.out)
                  have KR9 := Lib.hid (blk_below b KRX.out)
                  have O9 := Lib.hid (OX.out.below b HHX.out)
                  have S9 := Lib.hid b.size
                  clear b y0 y1 y2 y3 y4 y5 y6 y7
                  obtain ⟨y0, y1, y2, y3, y4, y5, y6, y7⟩ := vec8 KB9.out
                  obtain ⟨z0, z1, z2, z3, z4, z5, z6, z7⟩ := vec8 KR9.out
                  obtain ⟨f0, f1, f2, f3, f4, f5, f6, f7⟩ := free8 KR9.out
                  go_wp2
                  rw [EV.out, ED.out, XB.out]
                  exact vec_endS rfl rfl rfl rfl KR9.out ⟨_, rfl, (O9.out.put8 LOX.out _ _ _ _ _ _ _ _).wide (by have := LOX.out; omega) (by rw [put8_size]; exact Nat.le_trans HHX.out S9.out), put8_below B9.out (Nat.le_succ _)⟩
          · have XE := Lib.hid (XF.out ok h4)
            have XB := Lib.hid XE.out.2.1
            have EV := Lib.hid XE.out.1
            have ED := Lib.hid XE.out.2.2
            rw [EV.out, ED.out] at IV
            rw [if_neg h5] at li
            have li : items.length ≤ 40 := by omega
            have hkj : kk ≤ j := by omega
            have hj3 : j ≤ 3 := by omega
            have hk3 : kk ≤ 3 := by omega
            have CI := Lib.hid (CI.out q hkj hj3)
            have hb4 : (j == 4) = false := beq_eq_false_iff_ne.2 h4
            clear o ok q r CF CP OC XL XF XA XG XC FL FLQ h0 h5f h5
            obtain ⟨W3, hW3⟩ : ∃ W, w2.alloc (.cells #[] 9) = W := ⟨_, rfl⟩
            have b3 : Below w2.heap.size w2 W3 := hW3 ▸ below1 w2 _
            have KS := Lib.hid (show W3.heap[w2.heap.size]? = some (.cells #[] 9 (0, 0)) from hW3 ▸ blk_new w2 _ rfl)
            have B3 := Lib.hid (below_then B2.out b3)
            have KA3 := Lib.hid (blk_below b3 KA.out)
            have KR3 := Lib.hid (blk_below b3 KR.out)
            have EW3 := Lib.hid hW3
            have HL2 := Lib.hid (Array.getElem?_eq_some_iff.1 KR.out).1
            clear b3 hW3 k0 k1 k2 k3 k4 k5 k6 k7
            obtain ⟨k0, k1, k2, k3, k4, k5, k6, k7⟩ := vec8 KA.out
            have hltA := (Array.getElem?_eq_some_iff.1 KA.out).1
            go_wp2_with (at_builtin; go_loud (rw [EW3.out]; refine wpList_copyTexts rfl _ _ rfl w2.heap.size _ rfl (.inr ⟨w2.heap.size, Nat.le_refl _, rfl, KS.out⟩) an cn names lo hi rfl (HT.out _ B3.out) ln (Nat.le_of_lt (Array.getElem?_eq_some_iff.1 KS.out).1) ?_))
            intro v' w5 hcp hb5
            obtain ⟨na, nc, FN, rfl, hT, hnd, hrg, hcap⟩ := hcp
            have B5 := Lib.hid (B3.out.trans (hb5.mono (by have := HL2.out; omega)))
            have KA5 := Lib.hid ((hb5.block _ (Array.getElem?_eq_some_iff.1 KA.out).1).trans KA3.out)
            have KR5 := Lib.hid ((hb5.block _ (Array.getElem?_eq_some_iff.1 KR.out).1).trans KR3.out)
            have S5 := Lib.hid hb5.size
            have S3 := Lib.hid (Array.getElem?_eq_some_iff.1 KS.out).1
            obtain ⟨w0, hw0⟩ : ∃ W, w5.alloc (.cells #[.int .i64 j, .slice none 0 0, .slice none 0 0, .slice na names.length nc, .slice none 0 0, .slice none 0 0, .int .i64 0, .int .i64 0] 31) = W := ⟨_, rfl⟩
            have b0 : Below w5.heap.size w5 w0 := hw0 ▸ below1 w5 _
            have B0 := Lib.hid (below_then B5.out b0)
            have KB := Lib.hid (show w0.heap[w5.heap.size]? = some (.cells #[.int .i64 j, .slice none 0 0, .slice none 0 0, .slice na names.length nc, .slice none 0 0, .slice none 0 0, .int .i64 0, .int .i64 0] 31 (0, 0)) from hw0 ▸ blk_new w5 _ rfl)
            have KA0 := Lib.hid (blk_below b0 KA5.out)
            have KR0 := Lib.hid (blk_below b0 KR5.out)
            have HT0 := Lib.hid (show OwnTxs w0 na names FN from hT.kept (fun g hg => b0.block g (hrg g hg).2))
            have HRG := Lib.hid hrg
            have HND := Lib.hid hnd
            have HCP := Lib.hid hcap
            have EW0 := Lib.hid hw0
            have Z0 := Lib.hid (show w0.heap.size = w5.heap.size + 1 by rw [← hw0]; simp)
            clear hltA
            have hltA := (Array.getElem?_eq_some_iff.1 KA5.out).1
            have hltR := (Array.getElem?_eq_some_iff.1 KR5.out).1
            clear b0 hw0 hT hrg hnd hcap k0 k1 k2 k3 k4 k5 k6 k7 hb5 KA3 KR3
            obtain ⟨k0, k1, k2, k3, k4, k5, k6, k7⟩ := vec8 KA5.out
            go_wp2
            rw [EW0.out]
            clear k0 k1 k2 k3 k4 k5 k6 k7 hltA hltR
            have hS3 := S3.out
            have hS5 := S5.out
            have hL2 := HL2.out
            have hZ0 := Z0.out
            obtain ⟨n, hn⟩ : ∃ n, items.length = n := ⟨_, rfl⟩
            rw [hn] at KA0 li CI
            have EQ := Lib.hid (show cnvL kk j items = itF (fun i => cnvI kk j (items.getD i noI)) n from by rw [← hn]; rfl)
            rw [EQ.out] at IV EV
            have HI0 := Lib.hid (fun (k : Nat) (hk : k < n) (wr : World) (kp : ∀ g, g < w0.heap.size → g ≠ w5.heap.size → wr.heap[g]? = w0.heap[g]?) => (HI.out w0 B0.out).loopK (.inr (by omega)) (by omega) kp (i := k) (by omega))
            have ST := Lib.hid (show AppK w w0 w0 w5.heap.size j (itF (fun i => cnvI kk j (items.getD i noI)) 0) none 0 0 na names.length nc from AppK.start KB.out B0.out (by omega))
            rw [hn]
            clear hn EQ
            obtain ⟨b, hb⟩ : ∃ b, w5.heap.size = b := ⟨_, rfl⟩
            rw [hb] at ST HI0 HRG hS5 hZ0 ⊢
            have hltA0 := (Array.getElem?_eq_some_iff.1 KA0.out).1
            clear hb EW0
            go_loopw [7] (fun i wr => ∃ (k : Nat) (sa : Option Addr) (sn sc : Nat), k ≤ n ∧ i = .int .i64 k ∧ AppK w w0 wr b j (itF (fun i => cnvI kk j (items.getD i noI)) k) sa sn sc na names.length nc) (fun i _ => n - (intOf i).toNat)
            case atStart => exact ⟨0, none, 0, 0, Nat.zero_le _, rfl, ST.out⟩
            case round =>
              obtain ⟨k, sa, sn, sc, hk, rfl, hap⟩ := hrel
              have AP := Lib.hid hap
              have KAr := Lib.hid (hap.blk KA0.out (by omega))
              have hlA := (Array.getElem?_eq_some_iff.1 KAr.out).1
              clear hap
              obtain ⟨k0, k1, k2, k3, k4, k5, k6, k7⟩ := vec8 KAr.out
              by_cases hlt : k < n
              · obtain ⟨ba, off, rfl, hbB, c0, c1, c2⟩ := HI0.out k hlt wr AP.out.kept
                have CK := Lib.hid (fun W hb => CI.out k W hlt hb)
                have NX := Lib.hid (itF_succ (fun i => cnvI kk j (items.getD i noI)) k)
                obtain ⟨z, hz⟩ : ∃ z : It, cnvI kk j (items.getD k noI) = z := ⟨_, rfl⟩
                rw [hz] at CK NX
                obtain ⟨x, hx⟩ : ∃ x : It, items.getD k noI = x := ⟨_, rfl⟩
                rw [hx] at c0 c1 c2 CK
                have hbw : ba < wr.heap.size := Nat.lt_of_lt_of_le hbB AP.out.size
                have LN := Lib.hid (show (itF (fun i => cnvI kk j (items.getD i noI)) k).length ≤ 1048576 by rw [itF_len]; omega)
                clear hx hz
                have hAPs := AP.out.size
                have FAR := Lib.hid (fun (q : Nat × TypeId × Array Value) (hq : q ∈ ([(wr.heap.size, 67, #[.int .i64 x.n, .int .i64 x.d, .string x.t]), (w.heap.size, 31, #[.int .i64 kk, .slice (some ⟨ba, off, none⟩) n ci, .slice ap parts.length cp, .slice an names.length cn, .slice ac cls.length cc, .slice al levels.length cl, .int .i64 code, .int .i64 env]), (b, 31, #[.int .i64 j, .slice sa sn sc, .slice none 0 0, .slice na names.length nc, .slice none 0 0, .slice none 0 0, .int .i64 0, .int .i64 0])] : List (Nat × TypeId × Array Value))) (j' : Nat) (hj' : (Value.slice sa sn sc).ownBlock = some j') => (by
                  have hr := AP.out.row.lt j' hj'
                  have hl := AP.out.lt
                  simp only [List.mem_cons, List.not_mem_nil, or_false] at hq
                  rcases hq with rfl | rfl | rfl <;> (simp only; omega) : q.1 ≠ j'))
                go_upto_region 14 with (fail)
                obtain ⟨w8, hw8⟩ : ∃ W, wr.alloc (.cells #[.int .i64 x.n, .int .i64 x.d, .string x.t] 67) = W := ⟨_, rfl⟩
                have BW8 := Lib.hid (show Below wr.heap.size wr w8 from hw8 ▸ below1 wr _)
                have X1 := Lib.hid (show w8.heap[wr.heap.size]? = some (.cells #[.int .i64 x.n, .int .i64 x.d, .string x.t] 67 (0, 0)) from hw8 ▸ blk_new wr _ rfl)
                rw [hw8]
                clear hw8
                have H := Lib.hid (show HeldC w w8 ([(wr.heap.size, 67, #[.int .i64 x.n, .int .i64 x.d, .string x.t]), (w.heap.size, 31, #[.int .i64 kk, .slice (some ⟨ba, off, none⟩) n ci, .slice ap parts.length cp, .slice an names.length cn, .slice ac cls.length cc, .slice al levels.length cl, .int .i64 code, .int .i64 env]), (b, 31, #[.int .i64 j, .slice sa sn sc, .slice none 0 0, .slice na names.length nc, .slice none 0 0, .slice none 0 0, .int .i64 0, .int .i64 0])]) from ⟨below_then AP.out.below BW8.out, fun q hq => by
                  simp only [List.mem_cons, List.not_mem_nil, or_false] at hq
                  rcases hq with rfl | rfl | rfl
                  · exact X1.out
                  · exact blk_below BW8.out KAr.out
                  · exact blk_below BW8.out AP.out.vec⟩)
                have AP := Lib.hid (AP.out.keep BW8.out)
                refine run_region (ops := (opsOf Tryd.f37 14)) (S := fun w' => HeldC w w' ([(wr.heap.size, 67, #[.int .i64 x.n, .int .i64 x.d, .string x.t]), (w.heap.size, 31, #[.int .i64 kk, .slice (some ⟨ba, off, none⟩) n ci, .slice ap parts.length cp, .slice an names.length cn, .slice ac cls.length cc, .slice al levels.length cl, .int .i64 code, .int .i64 env]), (b, 31, #[.int .i64 j, .slice sa sn sc, .slice none 0 0, .slice na names.length nc, .slice none 0 0, .slice none 0 0, .int .i64 0, .int .i64 0])])) [(0, true), (1, true), (2, true), (3, true), (4, true), (5, true), (6, false), (7, false), (8, false), (9, true), (10, false)] (by kernel_rfl) (by kernel_rfl) (by kernel_rfl) (by kernel_rfl) (by kernel_rfl) (fun _ _ _ _ _ h => h) (heldC_drew H.out) ?_
                have H := Lib.hid (heldC_drew H.out)
                have AP := Lib.hid (AP.out.keep (below_drew' (Below.refl _ _)))
                refine runC_partV (b := b) (by kernel_rfl) (show opAt (opsOf Tryd.f37 14) 0 = some (some 82, .fieldAddr 31 (.tmp 6) 1, none) from by kernel_rfl) (by kernel_rfl) (by kernel_rfl) (by kernel_rfl) ?_
                refine runC_cell (b := b) (j := 1) (v := .slice sa sn sc) load_its (show opAt (opsOf Tryd.f37 14) 1 = some (some 83, .load 28 (.tmp 82), none) from by kernel_rfl) (by kernel_rfl) (by kernel_rfl) (by kernel_rfl) (List.Mem.tail _ (List.Mem.tail _ (List.Mem.head _))) rfl ?_
                refine runC_partV (b := w.heap.size) (by kernel_rfl) (show opAt (opsOf Tryd.f37 14) 2 = some (some 84, .fieldAddr 31 (.tmp 2) 0, none) from by kernel_rfl) (by kernel_rfl) (by kernel_rfl) (by kernel_rfl) ?_
                refine runC_cell (b := w.heap.size) (j := 0) (v := .int .i64 kk) load_int (show opAt (opsOf Tryd.f37 14) 3 = some (some 85, .load 3 (.tmp 84), none) from by kernel_rfl) (by kernel_rfl) (by kernel_rfl) (by kernel_rfl) (List.Mem.tail _ (List.Mem.head _)) rfl ?_
                refine run_mov (v := .int .i64 j) (show opAt (opsOf Tryd.f37 14) 4 = some (some 86, .move (.tmp 1), none) from by kernel_rfl) (by kernel_rfl) (by kernel_rfl) (by kernel_rfl) ?_
                refine runC_itm (b := wr.heap.size) (show opAt (opsOf Tryd.f37 14) 5 = some (some 87, .load 67 (.tmp 8), none) from by kernel_rfl) (by kernel_rfl) (by kernel_rfl) (by kernel_rfl) (List.Mem.head _) ?_
                refine run_call (args := [.int .i64 kk, .int .i64 j, .agg #[.int .i64 x.n, .int .i64 x.d, .string x.t]]) (show opAt (opsOf Tryd.f37 14) 6 = some (some 88, .call { callee := .value (.func 63), args := [(.tmp 85), (.tmp 86), (.tmp 87)].toArray, argTypes := [3, 3, 67].toArray }, none) from by kernel_rfl) (by kernel_rfl) (by kernel_rfl) (by kernel_rfl) (by kernel_rfl) ?_
                refine (CK.out _ H.out.1).mono ?_
                rintro en rw1 ⟨rfl, hb⟩
                refine ⟨_, rfl, heldC_call H.out hb, ?_⟩
                have H := Lib.hid (heldC_call H.out hb)
                have AP := Lib.hid (AP.out.keep hb)
                clear hb
                refine tail_item2 z (show opAt (opsOf Tryd.f37 14) 7 = some (some 89, .buildSlice 28 1 #[(0, (.tmp 88))], none) from by kernel_rfl) (by kernel_rfl) (by kernel_rfl) (show opAt (opsOf Tryd.f37 14) 8 = some (some 90, .call { callee := .builtin .append, args := [(.tmp 83), (.tmp 89)].toArray, argTypes := [28, 28].toArray }, none) from by kernel_rfl) (by kernel_rfl) (fun _ => by kernel_rfl) (show opAt (opsOf Tryd.f37 14) 9 = some (some 91, .fieldAddr 31 (.tmp 6) 1, none) from by kernel_rfl) (by kernel_rfl) (by kernel_rfl) (fun _ _ => by kernel_rfl) (show opAt (opsOf Tryd.f37 14) 10 = some (none, .store 28 (.tmp 91) (.tmp 90), none) from by kernel_rfl) (by kernel_rfl) (by kernel_rfl) H.out AP.out.row LN.out AP.out.size (Nat.le_trans AP.out.ge (Nat.le_of_lt AP.out.lt)) (List.Mem.tail _ (List.Mem.tail _ (List.Mem.head _))) rfl AP.out.lt AP.out.ge (fun q hq => FAR.out q hq) ?_
                rintro v' w2 ⟨sa, sn, sc, rfl⟩ hK hO hB hZ hR hG
                simp only [putAll, Act.put, List.setIfInBounds_toArray, List.set_cons_zero, List.set_cons_succ]
                have AN := Lib.hid (AP.out.next hK hO hB hZ hG)
                clear hK hO hB hR hG hZ H FAR LN
                go_wp2
                go_roundw
                case rel => first | exact ⟨k + 1, _, _, _, by omega, by go_num, NX.out ▸ AN.out⟩ | ((repeat apply Exists.intro); exact ⟨⟨k + 1, _, _, _, by omega, by go_num, NX.out ▸ AN.out⟩, rfl⟩)
                case measure => simp [intOf]; omega
              · obtain rfl : k = n := by omega
                have KBX := Lib.hid AP.out.vec
                have KRX := Lib.hid (AP.out.blk KR0.out (by omega))
                have BX := Lib.hid AP.out.below
                have hAPs := AP.out.size
                obtain ⟨G, g1, g2, g3⟩ := AP.out.own HT0.out HND.out (fun g hg => by have := HRG.out g hg; omega) HCP.out
                have OX := Lib.hid (⟨G, g1, g2, fun g hg => by have := g3 g hg; rcases this.2.2 with q | q; (omega); (have := HRG.out g q; omega)⟩ : Own 1 _ _ (w.heap.size + 2) wr.heap.size wr)
                have HHX := Lib.hid (Nat.le_refl wr.heap.size)
                have LOX := Lib.hid (Nat.lt_succ_self (w.heap.size + 1))
                clear g1 g2 g3
                obtain ⟨y0, y1, y2, y3, y4, y5, y6, y7⟩ := vec8 KBX.out
                go_wp2_with fail
                with_reducible refine (IV.out wr _ (OX.out.vat HHX.out)).mono ?_
                rintro e w9 ⟨rfl, b⟩
                have B9 := Lib.hid (below_then BX.out b)
                have KB9 := Lib.hid (blk_below b KBX.out)
                have KR9 := Lib.hid (blk_below b KRX.out)
                have O9 := Lib.hid (OX.out.below b HHX.out)
                have S9 := Lib.hid b.size
                clear b y0 y1 y2 y3 y4 y5 y6 y7
                obtain ⟨y0, y1, y2, y3, y4, y5, y6, y7⟩ := vec8 KB9.out
                obtain ⟨z0, z1, z2, z3, z4, z5, z6, z7⟩ := vec8 KR9.out
                obtain ⟨f0, f1, f2, f3, f4, f5, f6, f7⟩ := free8 KR9.out
                go_wp2
                rw [EV.out, ED.out, XB.out]
                exact vec_endS rfl rfl rfl rfl KR9.out ⟨_, rfl, (O9.out.put8 LOX.out _ _ _ _ _ _ _ _).wide (by have := LOX.out; omega) (by rw [put8_size]; exact Nat.le_trans HHX.out S9.out), put8_below B9.out (Nat.le_succ _)⟩
      · have XV := Lib.hid (coe_no (d := d) (fun h => o (OC.out.1 h).2))
        by_cases h5 : kk = 5
        · have h4 : ¬ j = 4 := fun h => o (.inr ⟨h5, h⟩)
          subst h5
          clear o q Q CF CP CI OC XL XF XA XG XC FL IV
          obtain ⟨z0, z1, z2, z3, z4, z5, z6, z7⟩ := vec8 KR.out
          obtain ⟨f0, f1, f2, f3, f4, f5, f6, f7⟩ := free8 KR.out
          go_wp2
          rw [XV.out.1, XV.out.2.1, XV.out.2.2]
          exact vec_endS rfl rfl rfl rfl KR.out (zeroB _ w _ (put8_below B2.out (Nat.le_succ _)))
        · have h4 : j < kk := by omega
          clear o q Q CF CP CI OC XL XF XA XG XC FL IV
          obtain ⟨z0, z1, z2, z3, z4, z5, z6, z7⟩ := vec8 KR.out
          obtain ⟨f0, f1, f2, f3, f4, f5, f6, f7⟩ := free8 KR.out
          go_wp2
          rw [XV.out.1, XV.out.2.1, XV.out.2.2]
          exact vec_endS rfl rfl rfl rfl KR.out (zeroB _ w _ (put8_below B2.out (Nat.le_succ _)))
    · rw [decide_eq_false r]
      have XV := Lib.hid (coe_no (d := d) (j := j) (v := VV) (fun h => r (by have := (OC.out.1 h).2; omega)))
      clear r q Q CF CP CI OC XL XF XA XG XC FL IV
      obtain ⟨z0, z1, z2, z3, z4, z5, z6, z7⟩ := vec8 KR.out
      obtain ⟨f0, f1, f2, f3, f4, f5, f6, f7⟩ := free8 KR.out
      go_wp2
      rw [XV.out.1, XV.out.2.1, XV.out.2.2]
      exact vec_endS rfl rfl rfl rfl KR.out (zeroB _ w _ (put8_below B2.out (Nat.le_succ _)))
  · rw [bB_no q]
    have XV := Lib.hid (coe_no (d := d) (j := j) (fun h => q h.1))
    clear q CF CP CI OC XL XF XA XG XC FL IV
    obtain ⟨z0, z1, z2, z3, z4, z5, z6, z7⟩ := vec8 KR.out
    obtain ⟨f0, f1, f2, f3, f4, f5, f6, f7⟩ := free8 KR.out
    go_wp2
    rw [XV.out.1, XV.out.2.1, XV.out.2.2]
    exact vec_endS rfl rfl rfl rfl KR.out (zeroB _ w _ (put8_below B2.out (Nat.le_succ _)))
end Go.Proofs.YtddebgmjolojeaaDoor

/- CombineVectors: what the reference wants. -/
namespace Go.Proofs.YtddebgmjolojeaaDoor
open Go.RowKit
set_option maxRecDepth 100000
set_option linter.unusedVariables false

/-- The names of a converted part, where they lie. -/
structure NmAt6 (lo hi : Nat) (a : Option Addr) (l : List ByteArray) (w : World) : Prop where
  out : TextsAt lo hi w a l
  le : hi ≤ w.heap.size
theorem NmAt6.keep {lo hi : Nat} {a : Option Addr} {l : List ByteArray} {w w' : World} (h : NmAt6 lo hi a l w) (hb : Below w.heap.size w w') : NmAt6 lo hi a l w' := ⟨h.out.below hb h.le, Nat.le_trans h.le hb.size⟩
theorem NmAt6.but {lo hi : Nat} {a : Option Addr} {l : List ByteArray} {w w' : World} (h : NmAt6 lo hi a l w) (hk : ∀ g, lo ≤ g → g < hi → w'.heap[g]? = w.heap[g]?) (hs : hi ≤ w'.heap.size) : NmAt6 lo hi a l w' :=
  ⟨h.out.kept (fun b o h0 h1 => by unfold World.cell?; rw [hk b h0 h1]), hs⟩
theorem Own.namesAt {d : Nat} {k : Int} {items : List It} {parts : List Vec} {names cls lev : List ByteArray} {code env : Int} {a : Option Addr} {n c lo hi : Nat} {c0 c1 c2 c4 c5 c6 c7 : Value} {w : World} (h : Own d (.mk k items parts names cls lev code env) (.agg #[c0, c1, c2, .slice a n c, c4, c5, c6, c7]) lo hi w) : TextsAt lo hi w a names := by
  obtain ⟨F, ho, hnd, hF⟩ := h.out
  obtain ⟨d', ai, ci, ap, cp, an, cn, ac, cc, al, cl, Fi, Fp, Fn, Fc, Fl, ed, e, eF, hC, hI, hP, hN, hCl, hL⟩ := ownVec_open ho
  simp only [Value.agg.injEq, Array.mk.injEq, List.cons.injEq, and_true, Value.slice.injEq] at e
  obtain ⟨_, _, _, ⟨rfl, _⟩, _⟩ := e
  exact hN.at_ (fun b hb => hF b (by rw [eF]; simp [hb]))
theorem totL_lp {l : List Vec} : ∀ k, (∀ j, j < k → ValidV (l.getD j noV)) → totL l k ≤ 40 * k
  | 0, _ => Nat.zero_le _
  | k + 1, h => by
    have h1 := totL_lp k (fun j hj => h j (by omega))
    have h2 := valid_len (h k (by omega))
    show totL l k + lengthV (l.getD k noV) ≤ 40 * (k + 1)
    omega
theorem specLenC (d : Nat) (v : Vec) (val : Value) (lo hi : Nat) (w : World) (hv : VecAt lo hi w d v val) (hsm : Small d v) :
    Calls Tryd.prog 36 #[val] w fun e w' => e = .returned (.int .i64 ((lengthV v : Nat) : Int)) ∧ Below w.heap.size w w' := by
  obtain ⟨k, items, parts, names, cls, levels, code, env⟩ := v
  obtain ⟨d', ai, ci, ap, cp, an, cn, ac, cc, al, cl, ed, rfl, _⟩ := vecAt_open hv
  subst ed
  exact specLen k ai ap an ac al items.length ci parts.length cp names.length cn cls.length cc levels.length cl code env w hsm.1 hsm.2.1
end Go.Proofs.YtddebgmjolojeaaDoor
