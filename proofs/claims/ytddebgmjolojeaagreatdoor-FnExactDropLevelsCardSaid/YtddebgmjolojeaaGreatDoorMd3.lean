/- FormatNumber: the program's and the reference's. -/
import Derived.Test.YtddebgmjolojeaaGreatDoorRows
import Derived.Test.YtddebgmjolojeaaGreatDoorNumMake
import Derived.Test.YtddebgmjolojeaaGreatDoorMd2
import Derived.Test.YtddebgmjolojeaaGreatDoorMd1
import Derived.Test.YtddebgmjolojeaaGreatDoorVecStr
import Derived.WalkKit
import Derived.WalkSpells
import Derived.WalkLawsBesides
import Derived.IntWalk
import Derived.Lib.Hide
import Derived.RegionTactic
import Derived.Deep.RegionHeld3
import Derived.OwnWalk
import Derived.Deep.DeepCutAuto
import Derived.Maps.OwnSet
import Derived.Lib.AppendZeros
namespace Go.Proofs.YtddebgmjolojeaaGreatDoor
set_option maxRecDepth 100000
open Go.RowKit
set_option linter.unusedVariables false

/-- The text of an item. -/
def txI (x : It) : ByteArray := if x.n = 0 ∧ x.d = 0 ∧ x.t.size = 0 then ⟨#[78, 65]⟩ else if isN x then (if x.d = 1 then ⟨(Lib.itoa x.n).toArray⟩ else ⟨(Lib.itoa x.n).toArray⟩ ++ ⟨#[47]⟩ ++ ⟨(Lib.itoa x.d).toArray⟩) else ⟨#[]⟩
theorem tx_no {n d : Int} (h : n = 0) (k : d = 0) : txI ⟨n, d, ⟨#[]⟩⟩ = ⟨#[78, 65]⟩ := by unfold txI; rw [if_pos ⟨h, k, rfl⟩]
theorem tx_bad {x : It} (h : isN x = false) (k : ¬ (x.n = 0 ∧ x.d = 0 ∧ x.t.size = 0)) : txI x = ⟨#[]⟩ := by unfold txI; rw [if_neg k, h]; rfl
theorem tx_one {x : It} (h : isN x = true) (k : x.d = 1) : txI x = ⟨(Lib.itoa x.n).toArray⟩ := by
  have := isN_iff.1 h
  unfold txI; rw [if_neg (by omega), if_pos h, if_pos k]
theorem tx_two {x : It} (h : isN x = true) (k : x.d ≠ 1) : txI x = ⟨(Lib.itoa x.n).toArray⟩ ++ ⟨#[47]⟩ ++ ⟨(Lib.itoa x.d).toArray⟩ := by
  have := isN_iff.1 h
  unfold txI; rw [if_neg (by omega), if_pos h, if_neg k]
theorem itoa_small (n : Int) (h0 : -9223372036854775808 ≤ n) (h1 : n ≤ 9223372036854775807) : (⟨(Lib.itoa n).toArray⟩ : ByteArray).size ≤ 21 := by
  have := Lib.itoa_length_le n (by omega) (by omega)
  exact this
theorem tab_step {W W' w1 : World} (h : Lib.TabIs Tryz.prog W "internal/strconv.uint64pow10" .u64 Lib.pow10Tab) (s : Step W W') (hb : Below W'.heap.size W' w1) : Lib.TabIs Tryz.prog w1 "internal/strconv.uint64pow10" .u64 Lib.pow10Tab :=
  tab_below (tab_below h s.below) hb
theorem ret_tx {a b : ByteArray} (h : a = b) : Ending.returned (.string a) = .returned (.string b) := by rw [h]
theorem empty_of {t : ByteArray} (h : ¬ t.size = 0) : t.toList.isEmpty = false := by
  cases k : t.toList with
  | nil => rw [ByteArray.toList_eq] at k; exact absurd (show t.data.toList.length = 0 by rw [k]; rfl) h
  | cons _ _ => rfl

set_option maxHeartbeats 4000000 in
theorem implTxI (n d : Int) (t : ByteArray) (w : World) (ht : t.size ≤ 9223372036854775807) (tab : Lib.TabIs Tryz.prog w "internal/strconv.uint64pow10" .u64 Lib.pow10Tab) :
    Calls Tryz.prog 91 #[.agg #[.int .i64 n, .int .i64 d, .string t]] w fun e w' => e = .returned (.string (txI ⟨n, d, t⟩)) ∧ Below w.heap.size w w' := by
  have TB := Lib.hid tab
  clear tab
  cases h : isN ⟨n, d, t⟩
  · have N := Lib.hid h
    by_cases t0 : t.size = 0
    · obtain rfl := empty_of_size t0
      clear t0
      by_cases n0 : n = 0
      · by_cases d0 : d = 0
        · subst n0 d0
          have X := Lib.hid (tx_no (n := 0) (d := 0) rfl rfl)
          clear h
          go_enter Tryz.func91, Tryz.ntmps91
          go_wp2
          go_ret
          exact ⟨ret_tx X.out.symm, below1 w _⟩
        · have X := Lib.hid (tx_bad h (by simp only; omega))
          subst n0
          clear h
          go_enter Tryz.func91, Tryz.ntmps91
          go_wp2_with fail
          refine (implNumNo 0 d ⟨#[]⟩ _ ht N.out).mono ?_
          rintro e w1 ⟨rfl, hb⟩
          obtain ⟨hc, hf⟩ := bcell hb
          have B1 := Lib.hid (below_then (below1 w _) hb)
          clear hb
          go_wp2
          go_ret
          exact ⟨ret_tx X.out.symm, B1.out⟩
      · have X := Lib.hid (tx_bad h (by simp only; omega))
        clear h
        go_enter Tryz.func91, Tryz.ntmps91
        go_wp2_with fail
        refine (implNumNo n d ⟨#[]⟩ _ ht N.out).mono ?_
        rintro e w1 ⟨rfl, hb⟩
        obtain ⟨hc, hf⟩ := bcell hb
        have B1 := Lib.hid (below_then (below1 w _) hb)
        clear hb
        go_wp2
        go_ret
        exact ⟨ret_tx X.out.symm, B1.out⟩
    · have X := Lib.hid (tx_bad h (by simp only; omega))
      have e1 := empty_of t0
      clear h t0
      by_cases n0 : n = 0
      · by_cases d0 : d = 0
        · subst n0 d0
          go_enter Tryz.func91, Tryz.ntmps91
          go_wp2_with fail
          refine (implNumNo 0 0 t _ ht N.out).mono ?_
          rintro e w1 ⟨rfl, hb⟩
          obtain ⟨hc, hf⟩ := bcell hb
          have B1 := Lib.hid (below_then (below1 w _) hb)
          clear hb
          go_wp2
          go_ret
          exact ⟨ret_tx X.out.symm, B1.out⟩
        · subst n0
          go_enter Tryz.func91, Tryz.ntmps91
          go_wp2_with fail
          refine (implNumNo 0 d t _ ht N.out).mono ?_
          rintro e w1 ⟨rfl, hb⟩
          obtain ⟨hc, hf⟩ := bcell hb
          have B1 := Lib.hid (below_then (below1 w _) hb)
          clear hb
          go_wp2
          go_ret
          exact ⟨ret_tx X.out.symm, B1.out⟩
      · go_enter Tryz.func91, Tryz.ntmps91
        go_wp2_with fail
        refine (implNumNo n d t _ ht N.out).mono ?_
        rintro e w1 ⟨rfl, hb⟩
        obtain ⟨hc, hf⟩ := bcell hb
        have B1 := Lib.hid (below_then (below1 w _) hb)
        clear hb
        go_wp2
        go_ret
        exact ⟨ret_tx X.out.symm, B1.out⟩
  · have N := Lib.hid h
    obtain ⟨q0, q1, q2, q3, q4, _⟩ := isN_iff.1 h
    dsimp only at q0 q1 q2 q3 q4
    subst q0
    by_cases d1 : d = 1
    · have X := Lib.hid (tx_one h d1)
      subst d1
      clear h
      go_enter Tryz.func91, Tryz.ntmps91
      go_wp2_with fail
      refine (implNumYes n 1 ⟨#[]⟩ _ ht N.out).mono ?_
      rintro e w1 ⟨rfl, hb⟩
      obtain ⟨hc, hf⟩ := bcell hb
      have B1 := Lib.hid (below_then (below1 w _) hb)
      clear hb
      go_wp2_with fail
      refine (implFmt n _ (by omega) (by omega) (tab_below TB.out B1.out)).mono ?_
      rintro e w2 ⟨rfl, hb⟩
      have B2 := Lib.hid (below_then B1.out hb)
      clear hb
      go_wp2
      go_ret
      exact ⟨ret_tx X.out.symm, B2.out⟩
    · have X := Lib.hid (tx_two h d1)
      clear h
      have L1 := itoa_small n (by omega) (by omega)
      have L2 := itoa_small d (by omega) (by omega)
      obtain ⟨A, hA⟩ : ∃ A : ByteArray, ⟨(Lib.itoa n).toArray⟩ = A := ⟨_, rfl⟩
      obtain ⟨D, hD⟩ : ∃ D : ByteArray, ⟨(Lib.itoa d).toArray⟩ = D := ⟨_, rfl⟩
      have CA : Hid (∀ W, Lib.TabIs Tryz.prog W "internal/strconv.uint64pow10" .u64 Lib.pow10Tab → Calls Tryz.prog 98 #[.int .i64 n] W fun e w' => e = .returned (.string A) ∧ Below W.heap.size W w') := by
        refine Lib.hid ?_
        intro W tw
        rw [← hA]
        exact implFmt n W (by omega) (by omega) tw
      have CD : Hid (∀ W, Lib.TabIs Tryz.prog W "internal/strconv.uint64pow10" .u64 Lib.pow10Tab → Calls Tryz.prog 98 #[.int .i64 d] W fun e w' => e = .returned (.string D) ∧ Below W.heap.size W w') := by
        refine Lib.hid ?_
        intro W tw
        rw [← hD]
        exact implFmt d W (by omega) (by omega) tw
      rw [hA] at L1
      rw [hD] at L2
      have K1 : ¬ 9223372036854775807 < A.size + 1 := by omega
      have K2 : ¬ 9223372036854775806 < A.size := by omega
      have K3 : ¬ 9223372036854775807 < A.size + 1 + D.size := by omega
      have K4 : A.size + 1 ≤ 9223372036854775807 := by omega
      have K5 : A.size ≤ 9223372036854775806 := by omega
      have K6 : A.size + 1 + D.size ≤ 9223372036854775807 := by omega
      simp only [hA, hD] at X
      clear hA hD
      go_enter Tryz.func91, Tryz.ntmps91
      go_wp2_with fail
      refine (implNumYes n d ⟨#[]⟩ _ ht N.out).mono ?_
      rintro e w1 ⟨rfl, hb⟩
      obtain ⟨hc, hf⟩ := bcell hb
      have B1 := Lib.hid (below_then (below1 w _) hb)
      have GX := Lib.hid (blk_below (g := w.heap.size) hb (blk_new _ _ rfl))
      have BS := Lib.hid (Below.refl w1.heap.size w1)
      have TS := Lib.hid (tab_below TB.out B1.out)
      clear hb
      go_wp2_with fail
      clear hc hf
      go_region_held3 (fun w' => w'.cell? ⟨w.heap.size, 0, none⟩ = some (.int .i64 n) ∧ w'.cell? ⟨w.heap.size, 1, none⟩ = some (.int .i64 d) ∧ w'.cell? ⟨w.heap.size, 2, none⟩ = some (.string ⟨#[]⟩)) (first | with_reducible exact (three (blk_drew GX.out)).1 | with_reducible exact (three GX.out).1) (first | (go_at_call_of 98 (Value.int IntKind.i64 n); refine (CA.out _ (tab_below TS.out (Step.below (by first | with_reducible exact .same | with_reducible exact .drew)))).mono ?_; rintro e w2 ⟨rfl, hb⟩; have GX := Lib.hid (blk_step hb (by first | with_reducible exact .same | with_reducible exact .drew) GX.out); have TS := Lib.hid (tab_step TS.out (by first | with_reducible exact .same | with_reducible exact .drew) hb); have BS := Lib.hid (below_step BS.out (by first | with_reducible exact .same | with_reducible exact .drew) hb BS.out.size); have hs := BS.out.size; clear hb) | (go_at_call_of 98 (Value.int IntKind.i64 d); refine (CD.out _ (tab_below TS.out (Step.below (by first | with_reducible exact .same | with_reducible exact .drew)))).mono ?_; rintro e w3 ⟨rfl, hb⟩; have GX := Lib.hid (blk_step hb (by first | with_reducible exact .same | with_reducible exact .drew) GX.out); have TS := Lib.hid (tab_step TS.out (by first | with_reducible exact .same | with_reducible exact .drew) hb); have BS := Lib.hid (below_step BS.out (by first | with_reducible exact .same | with_reducible exact .drew) hb BS.out.size); have hs := BS.out.size; clear hb))
      all_goals
        go_wp2
        go_ret
        first | exact ⟨ret_tx X.out.symm, below_then B1.out BS.out⟩ | exact ⟨ret_tx X.out.symm, below_drew' B1.out⟩

set_option maxHeartbeats 4000000 in
theorem specTxI (n d : Int) (t : ByteArray) (w : World) (ht : t.size ≤ 9223372036854775807) :
    Calls Tryz.prog 73 #[.agg #[.int .i64 n, .int .i64 d, .string t]] w fun e w' => e = .returned (.string (txI ⟨n, d, t⟩)) ∧ Below w.heap.size w w' := by
  cases h : isN ⟨n, d, t⟩
  · have N := Lib.hid h
    by_cases t0 : t.size = 0
    · obtain rfl := empty_of_size t0
      clear t0
      by_cases n0 : n = 0
      · by_cases d0 : d = 0
        · subst n0 d0
          have X := Lib.hid (tx_no (n := 0) (d := 0) rfl rfl)
          clear h
          go_enter Tryz.func73, Tryz.ntmps73
          go_wp2
          go_ret
          exact ⟨ret_tx X.out.symm, below1 w _⟩
        · have X := Lib.hid (tx_bad h (by simp only; omega))
          subst n0
          clear h
          go_enter Tryz.func73, Tryz.ntmps73
          go_wp2_with fail
          refine (specNumNo 0 d ⟨#[]⟩ _ ht N.out).mono ?_
          rintro e w1 ⟨rfl, hb⟩
          obtain ⟨hc, hf⟩ := bcell hb
          have B1 := Lib.hid (below_then (below1 w _) hb)
          clear hb
          go_wp2
          go_ret
          exact ⟨ret_tx X.out.symm, B1.out⟩
      · have X := Lib.hid (tx_bad h (by simp only; omega))
        clear h
        go_enter Tryz.func73, Tryz.ntmps73
        go_wp2_with fail
        refine (specNumNo n d ⟨#[]⟩ _ ht N.out).mono ?_
        rintro e w1 ⟨rfl, hb⟩
        obtain ⟨hc, hf⟩ := bcell hb
        have B1 := Lib.hid (below_then (below1 w _) hb)
        clear hb
        go_wp2
        go_ret
        exact ⟨ret_tx X.out.symm, B1.out⟩
    · have X := Lib.hid (tx_bad h (by simp only; omega))
      have e1 := empty_of t0
      clear h t0
      by_cases n0 : n = 0
      · by_cases d0 : d = 0
        · subst n0 d0
          go_enter Tryz.func73, Tryz.ntmps73
          go_wp2_with fail
          refine (specNumNo 0 0 t _ ht N.out).mono ?_
          rintro e w1 ⟨rfl, hb⟩
          obtain ⟨hc, hf⟩ := bcell hb
          have B1 := Lib.hid (below_then (below1 w _) hb)
          clear hb
          go_wp2
          go_ret
          exact ⟨ret_tx X.out.symm, B1.out⟩
        · subst n0
          go_enter Tryz.func73, Tryz.ntmps73
          go_wp2_with fail
          refine (specNumNo 0 d t _ ht N.out).mono ?_
          rintro e w1 ⟨rfl, hb⟩
          obtain ⟨hc, hf⟩ := bcell hb
          have B1 := Lib.hid (below_then (below1 w _) hb)
          clear hb
          go_wp2
          go_ret
          exact ⟨ret_tx X.out.symm, B1.out⟩
      · go_enter Tryz.func73, Tryz.ntmps73
        go_wp2_with fail
        refine (specNumNo n d t _ ht N.out).mono ?_
        rintro e w1 ⟨rfl, hb⟩
        obtain ⟨hc, hf⟩ := bcell hb
        have B1 := Lib.hid (below_then (below1 w _) hb)
        clear hb
        go_wp2
        go_ret
        exact ⟨ret_tx X.out.symm, B1.out⟩
  · have N := Lib.hid h
    obtain ⟨q0, q1, q2, q3, q4, _⟩ := isN_iff.1 h
    dsimp only at q0 q1 q2 q3 q4
    subst q0
    by_cases d1 : d = 1
    · have X := Lib.hid (tx_one h d1)
      subst d1
      clear h
      go_enter Tryz.func73, Tryz.ntmps73
      go_wp2_with fail
      refine (specNumYes n 1 ⟨#[]⟩ _ ht N.out).mono ?_
      rintro e w1 ⟨rfl, hb⟩
      obtain ⟨hc, hf⟩ := bcell hb
      have B1 := Lib.hid (below_then (below1 w _) hb)
      clear hb
      go_wp2_with fail
      refine (specFmt n _ (by omega) (by omega)).mono ?_
      rintro e w2 ⟨rfl, rfl⟩
      go_wp2
      go_ret
      exact ⟨ret_tx X.out.symm, B1.out⟩
    · have X := Lib.hid (tx_two h d1)
      clear h
      have L1 := itoa_small n (by omega) (by omega)
      have L2 := itoa_small d (by omega) (by omega)
      obtain ⟨A, hA⟩ : ∃ A : ByteArray, ⟨(Lib.itoa n).toArray⟩ = A := ⟨_, rfl⟩
      obtain ⟨D, hD⟩ : ∃ D : ByteArray, ⟨(Lib.itoa d).toArray⟩ = D := ⟨_, rfl⟩
      have CA : Hid (∀ W, Calls Tryz.prog 83 #[.int .i64 n] W fun e w' => e = .returned (.string A) ∧ W = w') := by
        refine Lib.hid ?_
        intro W 
        rw [← hA]
        exact specFmt n W (by omega) (by omega) 
      have CD : Hid (∀ W, Calls Tryz.prog 83 #[.int .i64 d] W fun e w' => e = .returned (.string D) ∧ W = w') := by
        refine Lib.hid ?_
        intro W 
        rw [← hD]
        exact specFmt d W (by omega) (by omega) 
      rw [hA] at L1
      rw [hD] at L2
      have K1 : ¬ 9223372036854775807 < A.size + 1 := by omega
      have K2 : ¬ 9223372036854775806 < A.size := by omega
      have K3 : ¬ 9223372036854775807 < A.size + 1 + D.size := by omega
      have K4 : A.size + 1 ≤ 9223372036854775807 := by omega
      have K5 : A.size ≤ 9223372036854775806 := by omega
      have K6 : A.size + 1 + D.size ≤ 9223372036854775807 := by omega
      simp only [hA, hD] at X
      clear hA hD
      go_enter Tryz.func73, Tryz.ntmps73
      go_wp2_with fail
      refine (specNumYes n d ⟨#[]⟩ _ ht N.out).mono ?_
      rintro e w1 ⟨rfl, hb⟩
      obtain ⟨hc, hf⟩ := bcell hb
      have B1 := Lib.hid (below_then (below1 w _) hb)
      have GX := Lib.hid (blk_below (g := w.heap.size) hb (blk_new _ _ rfl))
      have BS := Lib.hid (Below.refl w1.heap.size w1)
      clear hb
      go_wp2_with fail
      clear hc hf
      go_region_held3 (fun w' => w'.cell? ⟨w.heap.size, 0, none⟩ = some (.int .i64 n) ∧ w'.cell? ⟨w.heap.size, 1, none⟩ = some (.int .i64 d) ∧ w'.cell? ⟨w.heap.size, 2, none⟩ = some (.string ⟨#[]⟩)) (first | with_reducible exact (three (blk_drew GX.out)).1 | with_reducible exact (three GX.out).1) (first | (go_at_call_of 83 (Value.int IntKind.i64 n); refine (CA.out _).mono ?_; rintro e w2 ⟨rfl, rfl⟩) | (go_at_call_of 83 (Value.int IntKind.i64 d); refine (CD.out _).mono ?_; rintro e w3 ⟨rfl, rfl⟩))
      all_goals
        go_wp2
        go_ret
        first | exact ⟨ret_tx X.out.symm, below_then B1.out BS.out⟩ | exact ⟨ret_tx X.out.symm, below_drew' B1.out⟩
end Go.Proofs.YtddebgmjolojeaaGreatDoor

/- Elements converted to a later kind, and taken plain, as data. -/
namespace Go.Proofs.YtddebgmjolojeaaGreatDoor
open Go.RowKit
set_option maxRecDepth 100000
set_option linter.unusedVariables false

/-- The two texts of logical values. -/
def falB : ByteArray := ⟨#[70, 65, 76, 83, 69]⟩
def truB : ByteArray := ⟨#[84, 82, 85, 69]⟩
/-- An element of the kind k as one of the kind j. -/
def cnvI (k j : Int) (x : It) : It := if k = j ∨ j ≠ 3 ∨ x.d = 0 then x else if k = 1 then txE (if x.n = 0 then falB else truB) else txE (txI x)
theorem cnv_same {k j : Int} {x : It} (h : k = j ∨ j ≠ 3 ∨ x.d = 0) : cnvI k j x = x := by unfold cnvI; rw [if_pos h]
theorem cnv_log {x : It} (h : x.d ≠ 0) : cnvI 1 3 x = txE (if x.n = 0 then falB else truB) := by unfold cnvI; rw [if_neg (by omega), if_pos rfl]
theorem cnv_num {x : It} (h : x.d ≠ 0) : cnvI 2 3 x = txE (txI x) := by unfold cnvI; rw [if_neg (by omega), if_neg (by decide)]
theorem txI_size {x : It} (h : isN x = true) : (txI x).size ≤ 43 := by
  have k := isN_iff.1 h
  have h1 := itoa_small x.n (by omega) (by omega)
  have h2 := itoa_small x.d (by omega) (by omega)
  by_cases hd : x.d = 1
  · rw [tx_one h hd]; omega
  · rw [tx_two h hd, ByteArray.size_append, ByteArray.size_append]
    have h3 : (⟨#[47]⟩ : ByteArray).size = 1 := rfl
    omega
theorem itOk_size {k : Int} {x : It} (h : ItOk k x) : InB x ∧ x.t.size ≤ 60 := by
  rcases h with rfl | ⟨_, h1, h2, h3, h4⟩ | ⟨_, h1⟩ | ⟨_, h1, h2, h3⟩
  · exact ⟨⟨by decide, by decide, Nat.zero_le _⟩, Nat.zero_le _⟩
  · exact ⟨⟨by omega, by omega, by unfold maxLen; omega⟩, by omega⟩
  · have k := isN_iff.1 h1
    have : x.t.size = 0 := by rw [k.1]; rfl
    exact ⟨⟨by omega, by omega, by unfold maxLen; omega⟩, by omega⟩
  · exact ⟨⟨by omega, by omega, by unfold maxLen; omega⟩, by omega⟩
theorem txE_ok {s : ByteArray} (h : s.size ≤ 60) : ItOk 3 (txE s) := .inr (.inr (.inr ⟨rfl, rfl, rfl, h⟩))
theorem cnv_ok {k j : Int} {x : It} (h : ItOk k x) (hk : k ≤ j) (hj : j ≤ 3) : ItOk j (cnvI k j x) := by
  by_cases e : k = j
  · rw [cnv_same (.inl e), ← e]; exact h
  rcases h with rfl | ⟨rfl, h1, h2, h3, h4⟩ | ⟨rfl, h1⟩ | ⟨rfl, h1, h2, h3⟩
  · rw [cnv_same (.inr (.inr rfl))]; exact .inl rfl
  · by_cases e3 : j = 3
    · subst e3
      rw [cnv_log (by omega)]
      refine txE_ok ?_
      split <;> decide
    · rw [cnv_same (.inr (.inl e3))]
      refine .inr (.inr (.inl ⟨by omega, isN_iff.2 ⟨empty_of_size h4, by omega, by omega, by omega, by omega, ?_⟩⟩))
      rw [h1]; simp
  · have e3 : j = 3 := by omega
    subst e3
    have k := isN_iff.1 h1
    rw [cnv_num (by omega)]
    have := txI_size h1
    exact txE_ok (by omega)
  · omega
/-- An element taken plain: a factor's is its level. -/
def plnI (levels : List ByteArray) (x : It) : It := if x.d = 0 ∨ levels.length = 0 then x else txE (levels.getD (x.n - 1).toNat ⟨#[]⟩)
def plnK (k : Int) (levels : List ByteArray) : Int := if levels.length = 0 then k else 3
theorem pln_same {levels : List ByteArray} {x : It} (h : x.d = 0 ∨ levels.length = 0) : plnI levels x = x := by unfold plnI; rw [if_pos h]
theorem pln_lev {levels : List ByteArray} {x : It} (h : ¬ (x.d = 0 ∨ levels.length = 0)) : plnI levels x = txE (levels.getD (x.n - 1).toNat ⟨#[]⟩) := by unfold plnI; rw [if_neg h]
theorem plnK_no {k : Int} {levels : List ByteArray} (h : levels.length = 0) : plnK k levels = k := by unfold plnK; rw [if_pos h]
theorem plnK_yes {k : Int} {levels : List ByteArray} (h : ¬ levels.length = 0) : plnK k levels = 3 := by unfold plnK; rw [if_neg h]
theorem pln_ok {k : Int} {levels : List ByteArray} {x : It} (h : ItOk k x) (hl : LevOk levels.length x) (hs : LabelsOk (txtS levels) levels.length 20) : ItOk (plnK k levels) (plnI levels x) := by
  by_cases e : levels.length = 0
  · rw [plnK_no e, pln_same (.inr e)]; exact h
  · rw [plnK_yes e]
    by_cases hd : x.d = 0
    · rw [pln_same (.inl hd)]
      rcases h with rfl | ⟨_, h1, _⟩ | ⟨_, h1⟩ | ⟨_, _, h1, _⟩
      · exact .inl rfl
      · omega
      · have := isN_iff.1 h1; omega
      · omega
    · rw [pln_lev (by omega)]
      refine txE_ok ?_
      rcases hl with h0 | h0 | ⟨h0, h1, h2⟩
      · omega
      · omega
      · have := (hs.2 (x.n - 1).toNat (by omega)).2.1
        exact this
/-- The number of bytes of a text. -/
def bytI (x : It) : It := if x.d = 0 then x else ⟨(x.t.size : Int), 1, ⟨#[]⟩⟩
/-- The elements of a vector, plain. -/
def plnL (levels : List ByteArray) (items : List It) : List It := itF (fun i => plnI levels (items.getD i noI)) items.length
theorem plnL_len (levels : List ByteArray) (items : List It) : (plnL levels items).length = items.length := itF_len _ _
theorem plnL_at {levels : List ByteArray} {items : List It} {i : Nat} (h : i < items.length) : (plnL levels items).getD i noI = plnI levels (items.getD i noI) := itF_getD _ h
def cnvL (k j : Int) (l : List It) : List It := itF (fun i => cnvI k j (l.getD i noI)) l.length
theorem cnvL_len (k j : Int) (l : List It) : (cnvL k j l).length = l.length := itF_len _ _
theorem cnvL_at {k j : Int} {l : List It} {i : Nat} (h : i < l.length) : (cnvL k j l).getD i noI = cnvI k j (l.getD i noI) := itF_getD _ h
/-- What a vector that is atomic or NULL is known to have. -/
structure AtmOk (kk : Int) (items : List It) (levels : List ByteArray) : Prop where
  kind : 0 ≤ kk ∧ kk ≤ 3
  len : items.length ≤ 40
  llen : levels.length ≤ 20
  labs : LabelsOk (txtS levels) levels.length 20
  its : ∀ i, i < items.length → ItOk kk (items.getD i noI) ∧ LevOk levels.length (items.getD i noI)
  null : kk = 0 → items.length = 0
  two : kk ≠ 2 → levels.length = 0
theorem atm_ok {kk : Int} {items : List It} {parts : List Vec} {names cls levels : List ByteArray} {code env : Int} (h : ValidV (.mk kk items parts names cls levels code env)) (hk : kk ≤ 3) : AtmOk kk items levels := by
  have hf : FlatOk kk items parts.length names cls levels code env := h.1.flat
  have h1 := hf.h_len
  unfold lenV at h1
  rw [if_neg (by omega)] at h1
  exact ⟨⟨hf.h_kind.1, hk⟩, by omega, hf.h_levels.1, hf.h_levels, hf.h_items, fun e => by have := (hf.h_null e).1; omega, hf.h_noLevels⟩
theorem AtmOk.pk {kk : Int} {items : List It} {levels : List ByteArray} (h : AtmOk kk items levels) : 0 ≤ plnK kk levels ∧ plnK kk levels ≤ 3 ∧ kk ≤ plnK kk levels := by
  have := h.kind
  unfold plnK; split <;> omega
theorem AtmOk.pln {kk : Int} {items : List It} {levels : List ByteArray} (h : AtmOk kk items levels) {i : Nat} (hi : i < items.length) : ItOk (plnK kk levels) ((plnL levels items).getD i noI) := by
  rw [plnL_at hi]
  exact pln_ok (h.its i hi).1 (h.its i hi).2 h.labs
theorem AtmOk.cnv {kk j : Int} {items : List It} {levels : List ByteArray} (h : AtmOk kk items levels) (hj : plnK kk levels ≤ j) (hj3 : j ≤ 3) {i : Nat} (hi : i < items.length) : ItOk j ((cnvL (plnK kk levels) j (plnL levels items)).getD i noI) := by
  rw [cnvL_at (by rw [plnL_len]; exact hi)]
  exact cnv_ok (h.pln hi) hj hj3
end Go.Proofs.YtddebgmjolojeaaGreatDoor

/- Factors, as data. -/
namespace Go.Proofs.YtddebgmjolojeaaGreatDoor
open Go.RowKit
set_option maxRecDepth 100000
set_option linter.unusedVariables false

/-- The words of this chapter. -/
def nolB : ByteArray := ⟨#[110, 111, 32, 108, 101, 118, 101, 108, 115]⟩
def nfaB : ByteArray := ⟨#[110, 111, 116, 32, 97, 32, 102, 97, 99, 116, 111, 114]⟩
/-- A text's place in a list, counted from 0; -1 where it is not there. -/
def atF (l : List ByteArray) (s : ByteArray) : Int := findF s (fun i => l.getD i ⟨#[]⟩) l.length 0
theorem atF_spec (l : List ByteArray) (s : ByteArray) : (atF l s = -1 ∧ ∀ j, j < l.length → l.getD j ⟨#[]⟩ ≠ s) ∨ ∃ j : Nat, atF l s = j ∧ j < l.length ∧ l.getD j ⟨#[]⟩ = s ∧ ∀ i, i < j → l.getD i ⟨#[]⟩ ≠ s := by
  unfold atF
  rcases findF_first s (fun i => l.getD i ⟨#[]⟩) l.length 0 with ⟨e, hn⟩ | ⟨j, e, _, h2, h3, h4⟩
  · exact .inl ⟨e, fun j hj e' => hn j (Nat.zero_le _) (by omega) (by rw [e'])⟩
  · exact .inr ⟨j, e, by omega, toList_inj h3, fun i hi e' => h4 i (Nat.zero_le _) hi (by rw [e'])⟩
theorem atF_in (l : List ByteArray) (s : ByteArray) : -1 ≤ atF l s ∧ atF l s < l.length := by
  rcases atF_spec l s with ⟨e, _⟩ | ⟨j, e, h, _⟩ <;> rw [e] <;> omega
theorem getD_app {l m : List ByteArray} {i : Nat} (h : i < l.length) : (l ++ m).getD i ⟨#[]⟩ = l.getD i ⟨#[]⟩ := by
  rw [List.getD_eq_getElem?_getD, List.getD_eq_getElem?_getD, List.getElem?_append_left h]
theorem getD_last (l : List ByteArray) (s : ByteArray) : (l ++ [s]).getD l.length ⟨#[]⟩ = s := by
  rw [List.getD_eq_getElem?_getD, List.getElem?_append_right (Nat.le_refl _)]; simp
theorem atF_new {l : List ByteArray} {s : ByteArray} (h : atF l s < 0) : atF (l ++ [s]) s = l.length := by
  have hl : (l ++ [s]).length = l.length + 1 := by simp
  rcases atF_spec l s with ⟨_, hn⟩ | ⟨j, e, _⟩
  · rcases atF_spec (l ++ [s]) s with ⟨_, hm⟩ | ⟨i, e, h1, h2, h3⟩
    · exact absurd (getD_last l s) (hm _ (by omega))
    · rw [e]
      by_cases hi : i < l.length
      · rw [getD_app hi] at h2; exact absurd h2 (hn i hi)
      · have : i = l.length := by omega
        rw [this]
  · rw [e] at h; omega
theorem atF_old {l : List ByteArray} {s t : ByteArray} (h : t ≠ s) : atF (l ++ [s]) t = atF l t := by
  have hl : (l ++ [s]).length = l.length + 1 := by simp
  rcases atF_spec l t with ⟨e, hn⟩ | ⟨j, e, h1, h2, h3⟩
  · rw [e]
    rcases atF_spec (l ++ [s]) t with ⟨e', _⟩ | ⟨i, e', h1, h2, _⟩
    · exact e'
    · by_cases hi : i < l.length
      · rw [getD_app hi] at h2; exact absurd h2 (hn i hi)
      · have : i = l.length := by omega
        subst this
        rw [getD_last] at h2; exact absurd h2.symm h
  · rw [e]
    rcases atF_spec (l ++ [s]) t with ⟨e', hm⟩ | ⟨i, e', g1, g2, g3⟩
    · exact absurd ((getD_app h1).trans h2) (hm j (by omega))
    · rw [e']
      rcases Nat.lt_trichotomy i j with hij | hij | hij
      · rw [getD_app (by omega)] at g2; exact absurd g2 (h3 i hij)
      · rw [hij]
      · exact absurd ((getD_app h1).trans h2) (g3 j hij)
theorem atF_empty {l : List ByteArray} (h : ∀ s ∈ l, s.size ≠ 0) : atF l ⟨#[]⟩ = -1 := by
  rcases atF_spec l ⟨#[]⟩ with ⟨e, _⟩ | ⟨j, e, h1, h2, _⟩
  · exact e
  · have hm : l.getD j ⟨#[]⟩ ∈ l := by rw [List.getD_eq_getElem?_getD, List.getElem?_eq_getElem h1]; exact List.getElem_mem h1
    have := h _ hm
    rw [h2] at this
    exact absurd rfl this
/-- A list without its repetitions. -/
def snocD (l : List ByteArray) (s : ByteArray) : List ByteArray := if atF l s < 0 then l ++ [s] else l
def dedL (l : List ByteArray) : List ByteArray := l.foldl snocD []
theorem dedL_snoc (l : List ByteArray) (s : ByteArray) : dedL (l ++ [s]) = snocD (dedL l) s := by unfold dedL; rw [List.foldl_append]; rfl
theorem snocD_new {l : List ByteArray} {s : ByteArray} (h : atF l s < 0) : snocD l s = l ++ [s] := by unfold snocD; rw [if_pos h]
theorem snocD_old {l : List ByteArray} {s : ByteArray} (h : ¬ atF l s < 0) : snocD l s = l := by unfold snocD; rw [if_neg h]
theorem snoc_ind {α : Type} {p : List α → Prop} (h0 : p []) (h1 : ∀ l s, p l → p (l ++ [s])) (l : List α) : p l := by
  have k : ∀ m : List α, p m.reverse := fun m => by
    induction m with
    | nil => exact h0
    | cons a m ih => rw [List.reverse_cons]; exact h1 _ _ ih
  have := k l.reverse
  rwa [List.reverse_reverse] at this
theorem dedL_len (l : List ByteArray) : (dedL l).length ≤ l.length := by
  refine snoc_ind (p := fun l => (dedL l).length ≤ l.length) (Nat.le_refl _) (fun l s ih => ?_) l
  rw [dedL_snoc]
  unfold snocD
  split
  · simp only [List.length_append, List.length_cons, List.length_nil]; omega
  · simp only [List.length_append, List.length_cons, List.length_nil]; omega
theorem labels_tail {l : List ByteArray} {s : ByteArray} {m : Nat} (h : LabelsOk (txtS (l ++ [s])) (l ++ [s]).length m) : LabelsOk (txtS l) l.length m ∧ atF l s < 0 := by
  have hl : (l ++ [s]).length = l.length + 1 := by simp
  obtain ⟨h1, h2⟩ := h
  rw [hl] at h1 h2
  have ht : ∀ i, i < l.length → txtS (l ++ [s]) i = txtS l i := fun i hi => getD_app hi
  refine ⟨⟨by omega, fun i hi => ?_⟩, ?_⟩
  · obtain ⟨a, b, c⟩ := h2 i (by omega)
    rw [ht i hi] at a b c
    exact ⟨a, b, fun j hj => by have := c j hj; rwa [ht j (by omega)] at this⟩
  · rcases atF_spec l s with ⟨e, _⟩ | ⟨j, e, g1, g2, _⟩
    · rw [e]; decide
    · have := (h2 l.length (by omega)).2.2 j g1
      rw [ht j g1] at this
      exact absurd (g2.trans (getD_last l s).symm) this
theorem dedL_labels {l : List ByteArray} {m : Nat} (h : LabelsOk (txtS l) l.length m) : dedL l = l := by
  refine snoc_ind (p := fun l => LabelsOk (txtS l) l.length m → dedL l = l) (fun _ => rfl) (fun l s ih h => ?_) l h
  obtain ⟨h1, h2⟩ := labels_tail h
  rw [dedL_snoc, ih h1, snocD_new h2]
theorem labels_full {l : List ByteArray} {m : Nat} (h : LabelsOk (txtS l) l.length m) : ∀ s ∈ l, s.size ≠ 0 := fun s hs => by
  obtain ⟨i, hi, e⟩ := mem_getD (z := ⟨#[]⟩) hs
  have := (h.2 i hi).1
  unfold txtS at this
  rw [← e]; exact this
/-- An element as the place of its text among the levels. -/
def codI (lv : List ByteArray) (x : It) : It := if x.d = 0 ∨ atF lv x.t < 0 then noI else ⟨atF lv x.t + 1, 1, ⟨#[]⟩⟩
theorem codI_no {lv : List ByteArray} {x : It} (h : x.d = 0 ∨ atF lv x.t < 0) : codI lv x = noI := by unfold codI; rw [if_pos h]
theorem codI_yes {lv : List ByteArray} {x : It} (h : ¬ (x.d = 0 ∨ atF lv x.t < 0)) : codI lv x = ⟨atF lv x.t + 1, 1, ⟨#[]⟩⟩ := by unfold codI; rw [if_neg h]
theorem codI_in (lv : List ByteArray) (x : It) : codI lv x = noI ∨ ∃ n : Nat, n < lv.length ∧ codI lv x = ⟨(n : Int) + 1, 1, ⟨#[]⟩⟩ := by
  by_cases h : x.d = 0 ∨ atF lv x.t < 0
  · exact .inl (codI_no h)
  · rw [codI_yes h]
    rcases atF_spec lv x.t with ⟨e, _⟩ | ⟨j, e, h1, _⟩
    · rw [e] at h; omega
    · exact .inr ⟨j, h1, by rw [e]⟩
theorem codI_ok {lv : List ByteArray} (hl : lv.length ≤ 20) (x : It) : ItOk 2 (codI lv x) ∧ LevOk lv.length (codI lv x) := by
  rcases codI_in lv x with e | ⟨n, hn, e⟩ <;> rw [e]
  · exact ⟨.inl rfl, .inr (.inl rfl)⟩
  · refine ⟨.inr (.inr (.inl ⟨rfl, isN_iff.2 ⟨rfl, by show (1 : Int) ≤ 1; decide, by show (1 : Int) ≤ 999999999; decide, by show -999999999 ≤ (n : Int) + 1; omega, by show (n : Int) + 1 ≤ 999999999; omega, ?_⟩⟩)), .inr (.inr ⟨rfl, by show 1 ≤ (n : Int) + 1; omega, by show (n : Int) + 1 ≤ _; omega⟩)⟩
    show Int.gcd _ 1 = 1
    exact Int.gcd_one_right _
def codL (lv : List ByteArray) (X : List It) : List It := itF (fun i => codI lv (X.getD i noI)) X.length
theorem codL_len (lv : List ByteArray) (X : List It) : (codL lv X).length = X.length := itF_len _ _
/-- A factor of these elements. -/
def facR (lv : List ByteArray) (X : List It) (names : List ByteArray) : Vec := .mk 2 (codL lv X) [] names [facB] lv 0 0
theorem facB_label : LabelsOk (txtS [facB]) 1 3 := ⟨by decide, fun i hi => by
  obtain rfl : i = 0 := by omega
  exact ⟨by decide, by decide, fun j hj => absurd hj (Nat.not_lt_zero _)⟩⟩
theorem facR_valid {lv : List ByteArray} {X : List It} {names : List ByteArray} (hX : X.length ≤ 40) (hn : names.length = 0 ∨ names.length = X.length) (hm : NamedOk (txtS names) names.length) : ValidV (facR lv X names) ↔ LabelsOk (txtS lv) lv.length 20 := by
  constructor
  · intro h
    have := h.1.flat
    exact FlatOk.h_levels this
  · intro h
    have hf : FlatV (facR lv X names) := by
      refine ⟨by decide, ?_, ?_, hm, facB_label, h, fun _ => ⟨rfl, rfl⟩, fun e => absurd rfl e, fun _ => rfl, fun e => absurd e (by decide), fun e => absurd e (by decide), fun e => absurd e (by decide), fun i hi => ?_⟩
      · show lenV 2 (codL lv X).length 0 ≤ 40
        unfold lenV; rw [codL_len, if_neg (by decide)]; omega
      · show _ ∨ names.length = lenV 2 (codL lv X).length 0
        unfold lenV; rw [codL_len, if_neg (by decide)]; omega
      · rw [codL_len] at hi
        unfold codL
        rw [itF_getD _ hi]
        exact codI_ok h.1 _
    refine ⟨⟨hf, fun i hi => absurd hi (Nat.not_lt_zero _)⟩, ?_⟩
    have := hf.len
    show lengthV (facR lv X names) + 0 ≤ 200
    omega
end Go.Proofs.YtddebgmjolojeaaGreatDoor

/- Elements converted to a later kind and taken plain: both sides. -/
namespace Go.Proofs.YtddebgmjolojeaaGreatDoor
open Go.RowKit
set_option maxRecDepth 100000
set_option linter.unusedVariables false

theorem implFmtLog (n d : Int) (t : ByteArray) (w : World) :
    Calls Tryz.prog 90 #[.agg #[.int .i64 n, .int .i64 d, .string t]] w fun e w' => e = .returned (.string (if n = 0 then falB else truB)) ∧ Below w.heap.size w w' := by
  by_cases h : n = 0
  · subst h
    go_enter Tryz.func90, Tryz.ntmps90
    go_wp2
    go_ret
    exact ⟨rfl, below1 w _⟩
  · have hb : (n == 0) = false := by simp [h]
    rw [if_neg h]
    go_enter Tryz.func90, Tryz.ntmps90
    go_wp2
    go_ret
    exact ⟨rfl, below1 w _⟩
set_option maxHeartbeats 4000000 in
theorem implCnvS (k j n d : Int) (t : ByteArray) (w : World) (h0 : 0 ≤ k) (hk : k ≤ j) (hj : j ≤ 3) (hs : k = j ∨ j ≠ 3) :
    Calls Tryz.prog 77 #[.agg #[.int .i64 n, .int .i64 d, .string t], .int .i64 k, .int .i64 j] w (fun e w' => e = .returned (.agg #[.int .i64 n, .int .i64 d, .string t]) ∧ Below w.heap.size w w') := by
  have hsz : (w.alloc (.cells #[.int .i64 n, .int .i64 d, .string t] 62)).heap.size = w.heap.size + 1 := by simp
  rcases (show (j = 3 ∧ k = 3) ∨ (j = 2 ∧ k = 2) ∨ (j = 2 ∧ k = 1) ∨ (j = 2 ∧ k = 0) ∨ (j = 1 ∧ k = 1) ∨ (j = 1 ∧ k = 0) ∨ (j = 0 ∧ k = 0) by omega) with ⟨rfl, rfl⟩ | ⟨rfl, rfl⟩ | ⟨rfl, rfl⟩ | ⟨rfl, rfl⟩ | ⟨rfl, rfl⟩ | ⟨rfl, rfl⟩ | ⟨rfl, rfl⟩
  all_goals
    clear h0 hk hj hs
    go_enter Tryz.func77, Tryz.ntmps77
    go_wp2
    first | exact item_ret0 rfl rfl rfl (blk_new _ _ hsz.symm) ⟨rfl, below2 w _ _⟩ | exact item_ret0 rfl rfl rfl (blk_new _ _ rfl) ⟨rfl, below2 w _ _⟩ | exact item_ret rfl rfl rfl (blk_new _ _ hsz.symm) ⟨rfl, below_three (below2 w _ _) (by simp) _ _ _⟩
set_option maxHeartbeats 4000000 in
theorem implCnv0 (k : Int) (w : World) (h0 : 0 ≤ k) (hk : k ≤ 2) :
    Calls Tryz.prog 77 #[.agg #[.int .i64 0, .int .i64 0, .string ⟨#[]⟩], .int .i64 k, .int .i64 3] w (fun e w' => e = .returned (.agg #[.int .i64 0, .int .i64 0, .string ⟨#[]⟩]) ∧ Below w.heap.size w w') := by
  have hsz : (w.alloc (.cells #[.int .i64 0, .int .i64 0, .string ⟨#[]⟩] 62)).heap.size = w.heap.size + 1 := by simp
  rcases (show k = 0 ∨ k = 1 ∨ k = 2 by omega) with rfl | rfl | rfl
  all_goals
    clear h0 hk
    go_enter Tryz.func77, Tryz.ntmps77
    go_wp2
    first | exact item_ret0 rfl rfl rfl (blk_new _ _ hsz.symm) ⟨rfl, below2 w _ _⟩ | exact item_ret0 rfl rfl rfl (blk_new _ _ rfl) ⟨rfl, below2 w _ _⟩ | exact item_ret rfl rfl rfl (blk_new _ _ hsz.symm) ⟨rfl, below_three (below2 w _ _) (by simp) _ _ _⟩
set_option maxHeartbeats 4000000 in
theorem implCnvL (n : Int) (w : World) (hn : n = 0 ∨ n = 1) :
    Calls Tryz.prog 77 #[.agg #[.int .i64 n, .int .i64 1, .string ⟨#[]⟩], .int .i64 1, .int .i64 3] w (fun e w' => e = .returned (.agg #[.int .i64 0, .int .i64 1, .string (if n = 0 then falB else truB)]) ∧ Below w.heap.size w w') := by
  obtain ⟨V, hV⟩ : ∃ V, (if n = 0 then falB else truB) = V := ⟨_, rfl⟩
  have CT := Lib.hid (fun (W : World) (_ : Below w.heap.size w W) => implTxtItem V W)
  have CF := Lib.hid (fun (W : World) (_ : Below w.heap.size w W) => (by have h := implFmtLog n 1 ⟨#[]⟩ W; rw [hV] at h; exact h : Calls Tryz.prog 90 #[.agg #[.int .i64 n, .int .i64 1, .string ⟨#[]⟩]] W fun e w' => e = .returned (.string V) ∧ Below W.heap.size W w'))
  rw [hV]
  clear hV hn
  have hsz : (w.alloc (.cells #[.int .i64 n, .int .i64 1, .string ⟨#[]⟩] 62)).heap.size = w.heap.size + 1 := by simp
  obtain ⟨w1, hw1⟩ : ∃ W, (w.alloc (.cells #[.int .i64 n, .int .i64 1, .string ⟨#[]⟩] 62)).alloc (.cells #[.int .i64 0, .int .i64 0, .string ⟨#[]⟩] 62) = W := ⟨_, rfl⟩
  have B1 := Lib.hid (show Below w.heap.size w w1 from hw1 ▸ below2 w _ _)
  have KX := Lib.hid (show w1.heap[w.heap.size]? = some (.cells #[.int .i64 n, .int .i64 1, .string ⟨#[]⟩] 62 (0, 0)) from hw1 ▸ blk_old (blk_new w _ rfl))
  have KZ := Lib.hid (show w1.heap[w.heap.size + 1]? = some (.cells #[.int .i64 0, .int .i64 0, .string ⟨#[]⟩] 62 (0, 0)) from by rw [← hw1]; exact blk_new _ _ hsz.symm)
  have EW := Lib.hid hw1
  clear hw1 hsz
  go_enter Tryz.func77, Tryz.ntmps77
  go_wp2_with fail
  rw [EW.out]
  refine (CF.out w1 B1.out).mono ?_
  rintro e w2 ⟨rfl, b⟩
  have B2 := Lib.hid (below_then B1.out b)
  have KX2 := Lib.hid (blk_below b KX.out)
  have KZ2 := Lib.hid (blk_below b KZ.out)
  clear b
  go_wp2_with fail
  refine (CT.out w2 B2.out).mono ?_
  rintro e w3 ⟨rfl, b⟩
  have B3 := Lib.hid (below_then B2.out b)
  have KX3 := Lib.hid (blk_below b KX2.out)
  have KZ3 := Lib.hid (blk_below b KZ2.out)
  clear b
  obtain ⟨⟨z0, z1, z2⟩, f0, f1, f2⟩ := three KZ3.out
  go_wp2
  exact item_ret rfl rfl rfl KZ3.out ⟨rfl, below_three B3.out (by omega) _ _ _⟩
set_option maxHeartbeats 4000000 in
theorem implCnvN (n d : Int) (t : ByteArray) (w : World) (h : isN ⟨n, d, t⟩ = true) (tab : Lib.TabIs Tryz.prog w "internal/strconv.uint64pow10" .u64 Lib.pow10Tab) :
    Calls Tryz.prog 77 #[.agg #[.int .i64 n, .int .i64 d, .string t], .int .i64 2, .int .i64 3] w (fun e w' => e = .returned (.agg #[.int .i64 0, .int .i64 1, .string (txI ⟨n, d, t⟩)]) ∧ Below w.heap.size w w') := by
  have hi := isN_iff.1 h
  have ht : t.size ≤ 9223372036854775807 := by have : t = ⟨#[]⟩ := hi.1; rw [this]; exact Nat.zero_le _
  have hd : d ≠ 0 := by have := hi.2.1; simp only at this; omega
  have hdb : (d == 0) = false := by simp [hd]
  have TB := Lib.hid tab
  have CF := Lib.hid (fun (W : World) (hb : Below w.heap.size w W) => implTxI n d t W ht (tab_below TB.out hb))
  obtain ⟨V, hV⟩ : ∃ V, txI ⟨n, d, t⟩ = V := ⟨_, rfl⟩
  rw [hV] at CF ⊢
  have CT := Lib.hid (fun (W : World) (_ : Below w.heap.size w W) => implTxtItem V W)
  clear hV hi h ht tab
  have hsz : (w.alloc (.cells #[.int .i64 n, .int .i64 d, .string t] 62)).heap.size = w.heap.size + 1 := by simp
  obtain ⟨w1, hw1⟩ : ∃ W, (w.alloc (.cells #[.int .i64 n, .int .i64 d, .string t] 62)).alloc (.cells #[.int .i64 0, .int .i64 0, .string ⟨#[]⟩] 62) = W := ⟨_, rfl⟩
  have B1 := Lib.hid (show Below w.heap.size w w1 from hw1 ▸ below2 w _ _)
  have KX := Lib.hid (show w1.heap[w.heap.size]? = some (.cells #[.int .i64 n, .int .i64 d, .string t] 62 (0, 0)) from hw1 ▸ blk_old (blk_new w _ rfl))
  have KZ := Lib.hid (show w1.heap[w.heap.size + 1]? = some (.cells #[.int .i64 0, .int .i64 0, .string ⟨#[]⟩] 62 (0, 0)) from by rw [← hw1]; exact blk_new _ _ hsz.symm)
  have EW := Lib.hid hw1
  clear hw1 hsz
  go_enter Tryz.func77, Tryz.ntmps77
  go_wp2_with fail
  rw [EW.out]
  refine (CF.out w1 B1.out).mono ?_
  rintro e w2 ⟨rfl, b⟩
  have B2 := Lib.hid (below_then B1.out b)
  have KX2 := Lib.hid (blk_below b KX.out)
  have KZ2 := Lib.hid (blk_below b KZ.out)
  clear b
  go_wp2_with fail
  refine (CT.out w2 B2.out).mono ?_
  rintro e w3 ⟨rfl, b⟩
  have B3 := Lib.hid (below_then B2.out b)
  have KX3 := Lib.hid (blk_below b KX2.out)
  have KZ3 := Lib.hid (blk_below b KZ2.out)
  clear b
  obtain ⟨⟨z0, z1, z2⟩, f0, f1, f2⟩ := three KZ3.out
  go_wp2
  exact item_ret rfl rfl rfl KZ3.out ⟨rfl, below_three B3.out (by omega) _ _ _⟩
theorem implCnv (k j : Int) (x : It) (w : World) (h : ItOk k x) (h0 : 0 ≤ k) (hk : k ≤ j) (hj : j ≤ 3) (tab : Lib.TabIs Tryz.prog w "internal/strconv.uint64pow10" .u64 Lib.pow10Tab) :
    Calls Tryz.prog 77 #[.agg #[.int .i64 x.n, .int .i64 x.d, .string x.t], .int .i64 k, .int .i64 j] w (fun e w' => e = .returned (.agg #[.int .i64 (cnvI k j x).n, .int .i64 (cnvI k j x).d, .string (cnvI k j x).t]) ∧ Below w.heap.size w w') := by
  by_cases hs : k = j ∨ j ≠ 3
  · rw [cnv_same (hs.imp id .inl)]
    exact implCnvS k j x.n x.d x.t w h0 hk hj hs
  · obtain rfl : j = 3 := by omega
    rcases h with rfl | ⟨rfl, h1, h2, h3, h4⟩ | ⟨rfl, h1⟩ | ⟨rfl, h1⟩
    · rw [cnv_same (.inr (.inr rfl))]
      exact implCnv0 k w h0 (by omega)
    · obtain ⟨n, d, t⟩ := x
      obtain rfl : t = ⟨#[]⟩ := empty_of_size h4
      obtain rfl : d = 1 := h1
      rw [cnv_log (show (1 : Int) ≠ 0 by decide)]
      exact implCnvL n w (by simp only at h2 h3; omega)
    · have hi := isN_iff.1 h1
      rw [cnv_num (by omega)]
      exact implCnvN x.n x.d x.t w h1 tab
    · omega
set_option maxHeartbeats 4000000 in
theorem specCnvS (k j n d : Int) (t : ByteArray) (w : World) (h0 : 0 ≤ k) (hk : k ≤ j) (hj : j ≤ 3) (hs : k = j ∨ j ≠ 3) :
    Calls Tryz.prog 60 #[.int .i64 k, .int .i64 j, .agg #[.int .i64 n, .int .i64 d, .string t]] w (fun e w' => e = .returned (.agg #[.int .i64 n, .int .i64 d, .string t]) ∧ Below w.heap.size w w') := by
  have hsz : (w.alloc (.cells #[.int .i64 n, .int .i64 d, .string t] 62)).heap.size = w.heap.size + 1 := by simp
  rcases (show (j = 3 ∧ k = 3) ∨ (j = 2 ∧ k = 2) ∨ (j = 2 ∧ k = 1) ∨ (j = 2 ∧ k = 0) ∨ (j = 1 ∧ k = 1) ∨ (j = 1 ∧ k = 0) ∨ (j = 0 ∧ k = 0) by omega) with ⟨rfl, rfl⟩ | ⟨rfl, rfl⟩ | ⟨rfl, rfl⟩ | ⟨rfl, rfl⟩ | ⟨rfl, rfl⟩ | ⟨rfl, rfl⟩ | ⟨rfl, rfl⟩
  all_goals
    clear h0 hk hj hs
    go_enter Tryz.func60, Tryz.ntmps60
    go_wp2
    first | exact item_ret0 rfl rfl rfl (blk_new _ _ hsz.symm) ⟨rfl, below2 w _ _⟩ | exact item_ret0 rfl rfl rfl (blk_new _ _ rfl) ⟨rfl, below2 w _ _⟩ | exact item_ret rfl rfl rfl (blk_new _ _ hsz.symm) ⟨rfl, below_three (below2 w _ _) (by simp) _ _ _⟩
set_option maxHeartbeats 4000000 in
theorem specCnv0 (k : Int) (w : World) (h0 : 0 ≤ k) (hk : k ≤ 2) :
    Calls Tryz.prog 60 #[.int .i64 k, .int .i64 3, .agg #[.int .i64 0, .int .i64 0, .string ⟨#[]⟩]] w (fun e w' => e = .returned (.agg #[.int .i64 0, .int .i64 0, .string ⟨#[]⟩]) ∧ Below w.heap.size w w') := by
  have hsz : (w.alloc (.cells #[.int .i64 0, .int .i64 0, .string ⟨#[]⟩] 62)).heap.size = w.heap.size + 1 := by simp
  rcases (show k = 0 ∨ k = 1 ∨ k = 2 by omega) with rfl | rfl | rfl
  all_goals
    clear h0 hk
    go_enter Tryz.func60, Tryz.ntmps60
    go_wp2
    first | exact item_ret0 rfl rfl rfl (blk_new _ _ hsz.symm) ⟨rfl, below2 w _ _⟩ | exact item_ret0 rfl rfl rfl (blk_new _ _ rfl) ⟨rfl, below2 w _ _⟩ | exact item_ret rfl rfl rfl (blk_new _ _ hsz.symm) ⟨rfl, below_three (below2 w _ _) (by simp) _ _ _⟩
set_option maxHeartbeats 4000000 in
theorem specCnvL (n : Int) (w : World) (hn : n = 0 ∨ n = 1) :
    Calls Tryz.prog 60 #[.int .i64 1, .int .i64 3, .agg #[.int .i64 n, .int .i64 1, .string ⟨#[]⟩]] w (fun e w' => e = .returned (.agg #[.int .i64 0, .int .i64 1, .string (if n = 0 then falB else truB)]) ∧ Below w.heap.size w w') := by
  rcases hn with rfl | rfl
  · have CT := Lib.hid (fun (W : World) => specTxtItem falB W)
    have hsz : (w.alloc (.cells #[.int .i64 0, .int .i64 1, .string ⟨#[]⟩] 62)).heap.size = w.heap.size + 1 := by simp
    obtain ⟨w1, hw1⟩ : ∃ W, (w.alloc (.cells #[.int .i64 0, .int .i64 1, .string ⟨#[]⟩] 62)).alloc (.cells #[.int .i64 0, .int .i64 0, .string ⟨#[]⟩] 62) = W := ⟨_, rfl⟩
    have B1 := Lib.hid (show Below w.heap.size w w1 from hw1 ▸ below2 w _ _)
    have KZ := Lib.hid (show w1.heap[w.heap.size + 1]? = some (.cells #[.int .i64 0, .int .i64 0, .string ⟨#[]⟩] 62 (0, 0)) from by rw [← hw1]; exact blk_new _ _ hsz.symm)
    have EW := Lib.hid hw1
    clear hw1 hsz
    go_enter Tryz.func60, Tryz.ntmps60
    go_wp2_with fail
    rw [EW.out]
    refine (CT.out _).mono ?_
    rintro e w3 ⟨rfl, b⟩
    have b0 : Below w1.heap.size w1 w3 := below_then (below1 w1 _) b
    have B2 := Lib.hid (below_then B1.out b0)
    have KZ2 := Lib.hid (blk_below b0 KZ.out)
    clear b b0
    obtain ⟨⟨z0, z1, z2⟩, f0, f1, f2⟩ := three KZ2.out
    go_wp2
    exact item_ret rfl rfl rfl KZ2.out ⟨rfl, below_three B2.out (by omega) _ _ _⟩
  · have CT := Lib.hid (fun (W : World) => specTxtItem truB W)
    have hsz : (w.alloc (.cells #[.int .i64 1, .int .i64 1, .string ⟨#[]⟩] 62)).heap.size = w.heap.size + 1 := by simp
    obtain ⟨w1, hw1⟩ : ∃ W, (w.alloc (.cells #[.int .i64 1, .int .i64 1, .string ⟨#[]⟩] 62)).alloc (.cells #[.int .i64 0, .int .i64 0, .string ⟨#[]⟩] 62) = W := ⟨_, rfl⟩
    have B1 := Lib.hid (show Below w.heap.size w w1 from hw1 ▸ below2 w _ _)
    have KZ := Lib.hid (show w1.heap[w.heap.size + 1]? = some (.cells #[.int .i64 0, .int .i64 0, .string ⟨#[]⟩] 62 (0, 0)) from by rw [← hw1]; exact blk_new _ _ hsz.symm)
    have EW := Lib.hid hw1
    clear hw1 hsz
    go_enter Tryz.func60, Tryz.ntmps60
    go_wp2_with fail
    rw [EW.out]
    refine (CT.out _).mono ?_
    rintro e w3 ⟨rfl, b⟩
    have b0 : Below w1.heap.size w1 w3 := below_then (below1 w1 _) b
    have B2 := Lib.hid (below_then B1.out b0)
    have KZ2 := Lib.hid (blk_below b0 KZ.out)
    clear b b0
    obtain ⟨⟨z0, z1, z2⟩, f0, f1, f2⟩ := three KZ2.out
    go_wp2
    exact item_ret rfl rfl rfl KZ2.out ⟨rfl, below_three B2.out (by omega) _ _ _⟩
set_option maxHeartbeats 4000000 in
theorem specCnvN (n d : Int) (t : ByteArray) (w : World) (h : isN ⟨n, d, t⟩ = true) :
    Calls Tryz.prog 60 #[.int .i64 2, .int .i64 3, .agg #[.int .i64 n, .int .i64 d, .string t]] w (fun e w' => e = .returned (.agg #[.int .i64 0, .int .i64 1, .string (txI ⟨n, d, t⟩)]) ∧ Below w.heap.size w w') := by
  have hi := isN_iff.1 h
  have ht : t.size ≤ 9223372036854775807 := by have : t = ⟨#[]⟩ := hi.1; rw [this]; exact Nat.zero_le _
  have hd : d ≠ 0 := by have := hi.2.1; simp only at this; omega
  have hdb : (d == 0) = false := by simp [hd]
  have CF := Lib.hid (fun (W : World) (hb : Below w.heap.size w W) => specTxI n d t W ht)
  obtain ⟨V, hV⟩ : ∃ V, txI ⟨n, d, t⟩ = V := ⟨_, rfl⟩
  rw [hV] at CF ⊢
  have CT := Lib.hid (fun (W : World) (_ : Below w.heap.size w W) => specTxtItem V W)
  clear hV hi h ht
  have hsz : (w.alloc (.cells #[.int .i64 n, .int .i64 d, .string t] 62)).heap.size = w.heap.size + 1 := by simp
  obtain ⟨w1, hw1⟩ : ∃ W, (w.alloc (.cells #[.int .i64 n, .int .i64 d, .string t] 62)).alloc (.cells #[.int .i64 0, .int .i64 0, .string ⟨#[]⟩] 62) = W := ⟨_, rfl⟩
  have B1 := Lib.hid (show Below w.heap.size w w1 from hw1 ▸ below2 w _ _)
  have KX := Lib.hid (show w1.heap[w.heap.size]? = some (.cells #[.int .i64 n, .int .i64 d, .string t] 62 (0, 0)) from hw1 ▸ blk_old (blk_new w _ rfl))
  have KZ := Lib.hid (show w1.heap[w.heap.size + 1]? = some (.cells #[.int .i64 0, .int .i64 0, .string ⟨#[]⟩] 62 (0, 0)) from by rw [← hw1]; exact blk_new _ _ hsz.symm)
  have EW := Lib.hid hw1
  clear hw1 hsz
  go_enter Tryz.func60, Tryz.ntmps60
  go_wp2_with fail
  rw [EW.out]
  refine (CF.out w1 B1.out).mono ?_
  rintro e w2 ⟨rfl, b⟩
  have B2 := Lib.hid (below_then B1.out b)
  have KX2 := Lib.hid (blk_below b KX.out)
  have KZ2 := Lib.hid (blk_below b KZ.out)
  clear b
  go_wp2_with fail
  refine (CT.out w2 B2.out).mono ?_
  rintro e w3 ⟨rfl, b⟩
  have B3 := Lib.hid (below_then B2.out b)
  have KX3 := Lib.hid (blk_below b KX2.out)
  have KZ3 := Lib.hid (blk_below b KZ2.out)
  clear b
  obtain ⟨⟨z0, z1, z2⟩, f0, f1, f2⟩ := three KZ3.out
  go_wp2
  exact item_ret rfl rfl rfl KZ3.out ⟨rfl, below_three B3.out (by omega) _ _ _⟩
theorem specCnv (k j : Int) (x : It) (w : World) (h : ItOk k x) (h0 : 0 ≤ k) (hk : k ≤ j) (hj : j ≤ 3) :
    Calls Tryz.prog 60 #[.int .i64 k, .int .i64 j, .agg #[.int .i64 x.n, .int .i64 x.d, .string x.t]] w (fun e w' => e = .returned (.agg #[.int .i64 (cnvI k j x).n, .int .i64 (cnvI k j x).d, .string (cnvI k j x).t]) ∧ Below w.heap.size w w') := by
  by_cases hs : k = j ∨ j ≠ 3
  · rw [cnv_same (hs.imp id .inl)]
    exact specCnvS k j x.n x.d x.t w h0 hk hj hs
  · obtain rfl : j = 3 := by omega
    rcases h with rfl | ⟨rfl, h1, h2, h3, h4⟩ | ⟨rfl, h1⟩ | ⟨rfl, h1⟩
    · rw [cnv_same (.inr (.inr rfl))]
      exact specCnv0 k w h0 (by omega)
    · obtain ⟨n, d, t⟩ := x
      obtain rfl : t = ⟨#[]⟩ := empty_of_size h4
      obtain rfl : d = 1 := h1
      rw [cnv_log (show (1 : Int) ≠ 0 by decide)]
      exact specCnvL n w (by simp only at h2 h3; omega)
    · have hi := isN_iff.1 h1
      rw [cnv_num (by omega)]
      exact specCnvN x.n x.d x.t w h1
    · omega
set_option maxHeartbeats 4000000 in
theorem implPlnS (n d : Int) (t : ByteArray) (al : Option Addr) (nl cl : Nat) (w : World) (h : (n = 0 ∧ d = 0 ∧ t.size = 0) ∨ (nl = 0 ∧ d ≠ 0)) :
    Calls Tryz.prog 78 #[.agg #[.int .i64 n, .int .i64 d, .string t], .slice al nl cl] w fun e w' => e = .returned (.agg #[.int .i64 n, .int .i64 d, .string t]) ∧ Below w.heap.size w w' := by
  have hsz : (w.alloc (.cells #[.int .i64 n, .int .i64 d, .string t] 62)).heap.size = w.heap.size + 1 := by simp
  rcases h with ⟨rfl, rfl, h⟩ | ⟨rfl, h⟩
  · obtain rfl := empty_of_size h
    clear h
    go_enter Tryz.func78, Tryz.ntmps78
    go_wp2
    first | exact item_ret0 rfl rfl rfl (blk_new _ _ hsz.symm) ⟨rfl, below2 w _ _⟩ | exact item_ret0 rfl rfl rfl (blk_new _ _ rfl) ⟨rfl, below2 w _ _⟩ | exact item_ret rfl rfl rfl (blk_new _ _ hsz.symm) ⟨rfl, below_three (below2 w _ _) (by simp) _ _ _⟩
  · have hdb : (d == 0) = false := by simp [h]
    clear h
    go_enter Tryz.func78, Tryz.ntmps78
    go_wp2
    first | exact item_ret0 rfl rfl rfl (blk_new _ _ hsz.symm) ⟨rfl, below2 w _ _⟩ | exact item_ret0 rfl rfl rfl (blk_new _ _ rfl) ⟨rfl, below2 w _ _⟩ | exact item_ret rfl rfl rfl (blk_new _ _ hsz.symm) ⟨rfl, below_three (below2 w _ _) (by simp) _ _ _⟩
set_option maxHeartbeats 4000000 in
theorem implPlnL (n d : Int) (t s : ByteArray) (b off nl cl m : Nat) (w : World) (hd : d ≠ 0) (hn : n - 1 = (m : Int)) (hm : m < nl) (hl : nl ≤ 20) (hb : b < w.heap.size) (hc : w.cell? ⟨b, off + m, none⟩ = some (.string s)) :
    Calls Tryz.prog 78 #[.agg #[.int .i64 n, .int .i64 d, .string t], .slice (some ⟨b, off, none⟩) nl cl] w fun e w' => e = .returned (.agg #[.int .i64 0, .int .i64 1, .string s]) ∧ Below w.heap.size w w' := by
  have hdb : (d == 0) = false := by simp [hd]
  have hnl : ((nl : Int) == 0) = false := by simp; omega
  have CT := Lib.hid (fun (W : World) (_ : Below w.heap.size w W) => implTxtItem s W)
  have hsz : (w.alloc (.cells #[.int .i64 n, .int .i64 d, .string t] 62)).heap.size = w.heap.size + 1 := by simp
  obtain ⟨w1, hw1⟩ : ∃ W, (w.alloc (.cells #[.int .i64 n, .int .i64 d, .string t] 62)).alloc (.cells #[.int .i64 0, .int .i64 0, .string ⟨#[]⟩] 62) = W := ⟨_, rfl⟩
  have B1 := Lib.hid (show Below w.heap.size w w1 from hw1 ▸ below2 w _ _)
  have KX := Lib.hid (show w1.heap[w.heap.size]? = some (.cells #[.int .i64 n, .int .i64 d, .string t] 62 (0, 0)) from hw1 ▸ blk_old (blk_new w _ rfl))
  have KZ := Lib.hid (show w1.heap[w.heap.size + 1]? = some (.cells #[.int .i64 0, .int .i64 0, .string ⟨#[]⟩] 62 (0, 0)) from by rw [← hw1]; exact blk_new _ _ hsz.symm)
  have EW := Lib.hid hw1
  clear hw1 hsz
  have hc1 : w1.cell? ⟨b, off + m, none⟩ = some (.string s) := ((bcell B1.out).1 _ _ hb).trans hc
  have hf1 : w1.frozen? ⟨b, off + m, none⟩ = w.frozen? ⟨b, off + m, none⟩ := (bcell B1.out).2 _ _ hb
  go_enter Tryz.func78, Tryz.ntmps78
  go_wp2_with fail
  rw [EW.out]
  refine (CT.out w1 B1.out).mono ?_
  rintro e w2 ⟨rfl, b⟩
  have B2 := Lib.hid (below_then B1.out b)
  have KX2 := Lib.hid (blk_below b KX.out)
  have KZ2 := Lib.hid (blk_below b KZ.out)
  clear b
  obtain ⟨⟨z0, z1, z2⟩, f0, f1, f2⟩ := three KZ2.out
  go_wp2
  exact item_ret rfl rfl rfl KZ2.out ⟨rfl, below_three B2.out (by omega) _ _ _⟩
theorem itOk_d0 {k : Int} {x : It} (h : ItOk k x) (hd : x.d = 0) : x = noI := by
  rcases h with rfl | ⟨_, h1, _⟩ | ⟨_, h1⟩ | ⟨_, _, h1, _⟩
  · rfl
  · omega
  · have := isN_iff.1 h1; omega
  · omega
theorem implPln {kk : Int} (levels : List ByteArray) (x : It) (al : Option Addr) (cl lo hi : Nat) (w : World) (hL : TextsAt lo hi w al levels) (hhi : hi ≤ w.heap.size) (hx : ItOk kk x) (hl : LevOk levels.length x) (hn : levels.length ≤ 20) :
    Calls Tryz.prog 78 #[.agg #[.int .i64 x.n, .int .i64 x.d, .string x.t], .slice al levels.length cl] w fun e w' => e = .returned (.agg #[.int .i64 (plnI levels x).n, .int .i64 (plnI levels x).d, .string (plnI levels x).t]) ∧ Below w.heap.size w w' := by
  by_cases h : x.d = 0 ∨ levels.length = 0
  · rw [pln_same h]
    refine implPlnS x.n x.d x.t al levels.length cl w ?_
    by_cases hd : x.d = 0
    · have := itOk_d0 hx hd
      subst this
      exact .inl ⟨rfl, rfl, rfl⟩
    · exact .inr ⟨h.resolve_left hd, hd⟩
  · rw [pln_lev h]
    obtain ⟨h1, h2, h3⟩ : x.d = 1 ∧ 1 ≤ x.n ∧ x.n ≤ (levels.length : Int) := by
      rcases hl with h0 | h0 | h0
      · exact absurd (.inr h0) h
      · exact absurd (.inl h0) h
      · exact h0
    have hm : (x.n - 1).toNat < levels.length := by omega
    have hg : levels[(x.n - 1).toNat]? = some (levels.getD (x.n - 1).toNat ⟨#[]⟩) := by rw [List.getD_eq_getElem?_getD, List.getElem?_eq_getElem hm]; rfl
    obtain ⟨b, off, rfl, _, hb, hc⟩ := hL _ _ hg
    exact implPlnL x.n x.d x.t _ b off levels.length cl (x.n - 1).toNat w (by omega) (by omega) hm hn (by omega) hc
end Go.Proofs.YtddebgmjolojeaaGreatDoor

/- plainVector and convertVector of the program. -/
namespace Go.Proofs.YtddebgmjolojeaaGreatDoor
open Go.RowKit
set_option maxRecDepth 100000
set_option linter.unusedVariables false

theorem ResV.up {d : Nat} {V : Vec} {w W0 : World} {e : Ending} {w' : World} (h : ResV d V W0 e w') (b : Below w.heap.size w W0) : ResV d V w e w' := by
  obtain ⟨y, e1, ho, hb⟩ := h
  exact ⟨y, e1, ho.wide b.size (Nat.le_refl _), below_then b hb⟩
set_option maxHeartbeats 8000000 in
theorem implPlain (d : Nat) (kk : Int) (items : List It) (parts : List Vec) (names cls levels : List ByteArray) (code env : Int) (val : Value) (lo hi : Nat) (w : World) (hv : VecAt lo hi w d (.mk kk items parts names cls levels code env) val) (hhi : hi ≤ w.heap.size) (ok : AtmOk kk items levels) :
    Calls Tryz.prog 65 #[val] w (ResV 1 (vecOf (plnK kk levels) (plnL levels items)) w) := by
  obtain ⟨d', ai, ci, ap, cp, an, cn, ac, cc, al, cl, ed, rfl, hI, hN, hC, hL, hP⟩ := vecAt_open hv
  have AI := Lib.hid (fun (k : Nat) (w1 : World) (hk : k < items.length) (hb : Below w.heap.size w w1) => (hI.below hb hhi).at_ hk)
  have CI := Lib.hid (fun (k : Nat) (W : World) (hk : k < items.length) (hb : Below w.heap.size w W) => implPln levels (items.getD k noI) al cl lo hi W (hL.below hb hhi) (Nat.le_trans hhi hb.size) (ok.its k hk).1 (ok.its k hk).2 ok.llen)
  have li := ok.len
  have EV := Lib.hid (show vecOf (plnK kk levels) (plnL levels items) = mkN (plnK kk levels) (itF (fun i => plnI levels (items.getD i noI)) items.length) [] from rfl)
  obtain ⟨R, hR⟩ : ∃ R, vecOf (plnK kk levels) (plnL levels items) = R := ⟨_, rfl⟩
  rw [hR] at EV ⊢
  have HK : (levels.length = 0 ∧ kk = plnK kk levels) ∨ (¬ levels.length = 0 ∧ 3 = plnK kk levels) := by
    by_cases h : levels.length = 0
    · exact .inl ⟨h, (plnK_no h).symm⟩
    · exact .inr ⟨h, (plnK_yes h).symm⟩
  obtain ⟨K, hK⟩ : ∃ K, plnK kk levels = K := ⟨_, rfl⟩
  rw [hK] at EV HK
  clear hv hI hN hC hL hP ok ed hR hK
  obtain ⟨W0, hW0⟩ : ∃ W, w.alloc (.cells #[.int .i64 kk, .slice ai items.length ci, .slice ap parts.length cp, .slice an names.length cn, .slice ac cls.length cc, .slice al levels.length cl, .int .i64 code, .int .i64 env] 32) = W := ⟨_, rfl⟩
  have BW0 := Lib.hid (show Below w.heap.size w W0 from hW0 ▸ below1 w _)
  have SW0 := Lib.hid (show W0.heap.size = w.heap.size + 1 by rw [← hW0]; simp)
  have KARG0 := Lib.hid (show W0.heap[w.heap.size]? = some (.cells #[.int .i64 kk, .slice ai items.length ci, .slice ap parts.length cp, .slice an names.length cn, .slice ac cls.length cc, .slice al levels.length cl, .int .i64 code, .int .i64 env] 32 (0, 0)) from hW0 ▸ blk_new w _ rfl)
  have ST := Lib.hid (show AppN W0 ((W0.alloc (.cells #[.int .i64 0, .slice none 0 0, .slice none 0 0, .slice none 0 0, .slice none 0 0, .slice none 0 0, .int .i64 0, .int .i64 0] 32)).alloc (.cells #[.int .i64 K, .slice none 0 0, .slice none 0 0, .slice none 0 0, .slice none 0 0, .slice none 0 0, .int .i64 0, .int .i64 0] 32)) W0.heap.size (W0.heap.size + 1) K (itF (fun i => plnI levels (items.getD i noI)) 0) none 0 0 [] none 0 [] from
    ⟨blk_old (blk_new W0 _ rfl), blk_new _ _ (by simp), ⟨rfl, .inl ⟨rfl, rfl⟩⟩, .inl ⟨rfl, rfl⟩, Nat.le_refl _, List.nodup_nil, (fun _ h => by cases h), below2 W0 _ _, Nat.le_refl _, Nat.lt_succ_self _⟩)
  have EW := Lib.hid hW0
  clear hW0
  obtain ⟨n, hn⟩ : ∃ n, items.length = n := ⟨_, rfl⟩
  rw [hn] at AI CI KARG0 EW EV li ⊢
  clear hn
  obtain ⟨nl, hnl⟩ : ∃ nl, levels.length = nl := ⟨_, rfl⟩
  rw [hnl] at EW KARG0 CI HK ⊢
  clear hnl
  rcases HK with ⟨rfl, rfl⟩ | ⟨h0, rfl⟩
  · go_enter Tryz.func65, Tryz.ntmps65
    go_wp2
    rw [EW.out, ← SW0.out]
    obtain ⟨r, hr⟩ : ∃ r, W0.heap.size = r := ⟨_, rfl⟩
    rw [hr] at ST ⊢
    obtain ⟨b, hb⟩ : ∃ b, r + 1 = b := ⟨_, rfl⟩
    rw [hb] at ST ⊢
    clear hr hb EW
    go_loopw [17] (fun i wr => ∃ (k : Nat) (sa : Option Addr) (sn sc : Nat), k ≤ n ∧ i = .int .i64 k ∧ AppN W0 wr r b kk (itF (fun i => plnI levels (items.getD i noI)) k) sa sn sc [] none 0 []) (fun i _ => n - (intOf i).toNat)
    case atStart => exact ⟨0, none, 0, 0, Nat.zero_le _, rfl, ST.out⟩
    case round =>
      obtain ⟨k, sa, sn, sc, hk, rfl, hap⟩ := hrel
      have AP := Lib.hid hap
      clear hap
      by_cases hlt : k < n
      · obtain ⟨ba, off, rfl, hbB, c0, c1, c2⟩ := AI.out _ _ hlt (below_then BW0.out AP.out.below)
        have CK := Lib.hid (fun W hb => CI.out k W hlt hb)
        have NX := Lib.hid (itF_succ (fun i => plnI levels (items.getD i noI)) k)
        obtain ⟨z, hz⟩ : ∃ z : It, plnI levels (items.getD k noI) = z := ⟨_, rfl⟩
        rw [hz] at CK NX
        change wr.cell? _ = some (.string (items.getD k noI).t) at c2
        obtain ⟨x, hx⟩ : ∃ x : It, items.getD k noI = x := ⟨_, rfl⟩
        rw [hx] at c0 c1 c2 CK
        have LN := Lib.hid (show (itF (fun i => plnI levels (items.getD i noI)) k).length ≤ 1048576 by rw [itF_len]; omega)
        have hbw : ba < wr.heap.size := Nat.lt_of_lt_of_le (Nat.lt_of_lt_of_le hbB hhi) (below_then BW0.out AP.out.below).size
        have FAR := Lib.hid (fun (C : Array Value) (q : Nat × TypeId × Array Value) (hq : q ∈ (wr.heap.size, 62, C) :: (w.heap.size, 32, #[.int .i64 kk, .slice (some ⟨ba, off, none⟩) n ci, .slice ap parts.length cp, .slice an names.length cn, .slice ac cls.length cc, .slice al 0 cl, .int .i64 code, .int .i64 env]) :: [(r, 32, #[.int .i64 0, .slice none 0 0, .slice none 0 0, .slice none 0 0, .slice none 0 0, .slice none 0 0, .int .i64 0, .int .i64 0]), (b, 32, #[.int .i64 kk, .slice sa sn sc, .slice none 0 0, .slice none 0 0, .slice none 0 0, .slice none 0 0, .int .i64 0, .int .i64 0])]) (j : Nat) (hj : (Value.slice sa sn sc).ownBlock = some j) => (by
          rcases List.mem_cons.1 hq with rfl | hq
          · exact AP.out.far (C := C) (List.Mem.head _) j hj
          rcases List.mem_cons.1 hq with rfl | hq
          · have := (AP.out.row.lt j hj).1; have := AP.out.o1; have := AP.out.o2; have := SW0.out; simp only; omega
          · exact AP.out.far (C := C) (List.Mem.tail _ hq) j hj : q.1 ≠ j))
        have W0L := Lib.hid (show W0.heap.size ≤ b + 1 by have := AP.out.o1; have := AP.out.o2; omega)
        have B0L := Lib.hid (show W0.heap.size ≤ b by have := AP.out.o1; have := AP.out.o2; omega)
        have KA := Lib.hid (blk_below AP.out.below KARG0.out)
        have hbb := AP.out.big
        clear hx hz
        go_wp2
        obtain ⟨w5, hw5⟩ : ∃ W, wr.alloc (.cells #[.int .i64 x.n, .int .i64 x.d, .string x.t] 62) = W := ⟨_, rfl⟩
        have KA := Lib.hid (blk_below (show Below wr.heap.size wr w5 from hw5 ▸ below1 wr _) KA.out)
        have AP := Lib.hid (show AppN W0 w5 r b kk (itF (fun i => plnI levels (items.getD i noI)) k) sa sn sc [] none 0 [] from hw5 ▸ AP.out.keep (below1 wr _))
        have X1 := Lib.hid (show w5.heap[wr.heap.size]? = some (.cells #[.int .i64 x.n, .int .i64 x.d, .string x.t] 62 (0, 0)) from hw5 ▸ blk_new wr _ rfl)
        rw [hw5]
        clear hw5
        have H := Lib.hid (heldC_cons (heldC_cons AP.out.heldC KA.out) X1.out)
        refine run_region (ops := (opsOf Tryz.f65 7)) (S := fun w' => HeldC W0 w' ([(wr.heap.size, 62, #[.int .i64 x.n, .int .i64 x.d, .string x.t]), (w.heap.size, 32, #[.int .i64 kk, .slice (some ⟨ba, off, none⟩) n ci, .slice ap parts.length cp, .slice an names.length cn, .slice ac cls.length cc, .slice al 0 cl, .int .i64 code, .int .i64 env]), (r, 32, #[.int .i64 0, .slice none 0 0, .slice none 0 0, .slice none 0 0, .slice none 0 0, .slice none 0 0, .int .i64 0, .int .i64 0]), (b, 32, #[.int .i64 kk, .slice sa sn sc, .slice none 0 0, .slice none 0 0, .slice none 0 0, .slice none 0 0, .int .i64 0, .int .i64 0])])) [(0, true), (1, true), (2, true), (3, true), (4, true), (5, false), (6, false), (7, false), (8, true), (9, false)] (by kernel_rfl) (by kernel_rfl) (by kernel_rfl) (by kernel_rfl) (by kernel_rfl) (fun _ _ _ _ _ h => h) (heldC_drew H.out) ?_
        have H := Lib.hid (heldC_drew H.out)
        have AP := Lib.hid (AP.out.keep (below_drew' (Below.refl _ _)))
        refine runC_partV (b := b) (by kernel_rfl) (show opAt (opsOf Tryz.f65 7) 0 = some (some 21, .fieldAddr 32 (.tmp 3) 1, none) from by kernel_rfl) (by kernel_rfl) (by kernel_rfl) (by kernel_rfl) ?_
        refine runC_cell (b := b) (j := 1) (v := .slice sa sn sc) load_its (show opAt (opsOf Tryz.f65 7) 1 = some (some 22, .load 29 (.tmp 21), none) from by kernel_rfl) (by kernel_rfl) (by kernel_rfl) (by kernel_rfl) (List.Mem.tail _ (List.Mem.tail _ (List.Mem.tail _ (List.Mem.head _)))) rfl ?_
        refine runC_itm (b := wr.heap.size) (show opAt (opsOf Tryz.f65 7) 2 = some (some 23, .load 62 (.tmp 5), none) from by kernel_rfl) (by kernel_rfl) (by kernel_rfl) (by kernel_rfl) (List.Mem.head _) ?_
        refine runC_partV (b := w.heap.size) (by kernel_rfl) (show opAt (opsOf Tryz.f65 7) 3 = some (some 24, .fieldAddr 32 (.tmp 1) 5, none) from by kernel_rfl) (by kernel_rfl) (by kernel_rfl) (by kernel_rfl) ?_
        refine runC_cell (b := w.heap.size) (j := 5) (v := .slice al 0 cl) load_strs (show opAt (opsOf Tryz.f65 7) 4 = some (some 25, .load 24 (.tmp 24), none) from by kernel_rfl) (by kernel_rfl) (by kernel_rfl) (by kernel_rfl) (List.Mem.tail _ (List.Mem.head _)) rfl ?_
        refine run_call (args := [.agg #[.int .i64 x.n, .int .i64 x.d, .string x.t], .slice al 0 cl]) (show opAt (opsOf Tryz.f65 7) 5 = some (some 26, .call { callee := .value (.func 78), args := [(.tmp 23), (.tmp 25)].toArray, argTypes := [62, 24].toArray }, none) from by kernel_rfl) (by kernel_rfl) (by kernel_rfl) (by kernel_rfl) (by kernel_rfl) ?_
        refine (CK.out _ (below_then BW0.out H.out.1)).mono ?_
        rintro en rw1 ⟨rfl, hb⟩
        refine ⟨_, rfl, heldC_call H.out hb, ?_⟩
        have H := Lib.hid (heldC_call H.out hb)
        have AP := Lib.hid (AP.out.keep hb)
        clear hb
        refine tail_item2 z (show opAt (opsOf Tryz.f65 7) 6 = some (some 27, .buildSlice 29 1 #[(0, (.tmp 26))], none) from by kernel_rfl) (by kernel_rfl) (by kernel_rfl) (show opAt (opsOf Tryz.f65 7) 7 = some (some 28, .call { callee := .builtin .append, args := [(.tmp 22), (.tmp 27)].toArray, argTypes := [29, 29].toArray }, none) from by kernel_rfl) (by kernel_rfl) (fun _ => by kernel_rfl) (show opAt (opsOf Tryz.f65 7) 8 = some (some 29, .fieldAddr 32 (.tmp 3) 1, none) from by kernel_rfl) (by kernel_rfl) (by kernel_rfl) (fun _ _ => by kernel_rfl) (show opAt (opsOf Tryz.f65 7) 9 = some (none, .store 29 (.tmp 29) (.tmp 28), none) from by kernel_rfl) (by kernel_rfl) (by kernel_rfl) H.out AP.out.row LN.out (Nat.succ_le_of_lt (Array.getElem?_eq_some_iff.1 (heldC_at H.out (List.Mem.tail _ (List.Mem.tail _ (List.Mem.tail _ (List.Mem.head _)))))).1) W0L.out (List.Mem.tail _ (List.Mem.tail _ (List.Mem.tail _ (List.Mem.head _)))) rfl (Nat.lt_succ_self _) B0L.out (fun q hq => FAR.out _ q hq) ?_
        rintro v' w2 ⟨sa, sn, sc, rfl⟩ hK hO hB hZ hR hG
        simp only [putAll, Act.put, List.setIfInBounds_toArray, List.set_cons_zero, List.set_cons_succ]
        have AN := Lib.hid (AP.out.next hK hO hB (hR _ (List.Mem.tail _ (List.Mem.tail _ (List.Mem.head _))) (by have := AP.out.o2; simp only; omega)) (fun g hg => hG g (by have := AP.out.rng g hg; have := AP.out.big; omega) (by have := AP.out.rng g hg; omega) (fun j hj => by have := (AP.out.row.lt j hj).1; have := AP.out.rng g hg; omega)))
        clear hK hO hB hR hG H FAR LN
        go_wp2
        go_roundw
        case rel => exact ⟨k + 1, sa, sn, sc, by omega, by go_num, NX.out ▸ AN.out⟩
        case measure => simp [intOf]; omega
      · obtain rfl : k = n := by omega
        have K1 := Lib.hid AP.out.vec
        have K0 := Lib.hid AP.out.res
        have FN := Lib.hid AP.out.fin
        obtain ⟨k0, k1, k2, k3, k4, k5, k6, k7⟩ := vec8 K1.out
        obtain ⟨z0, z1, z2, z3, z4, z5, z6, z7⟩ := vec8 K0.out
        obtain ⟨f0, f1, f2, f3, f4, f5, f6, f7⟩ := free8 K0.out
        go_wp2
        rw [EV.out]
        exact vec_end rfl rfl rfl K0.out (FN.out.up BW0.out)
  · have hl0 : 0 < (nl : Int) := by omega
    go_enter Tryz.func65, Tryz.ntmps65
    go_wp2
    rw [EW.out, ← SW0.out]
    obtain ⟨r, hr⟩ : ∃ r, W0.heap.size = r := ⟨_, rfl⟩
    rw [hr] at ST ⊢
    obtain ⟨b, hb⟩ : ∃ b, r + 1 = b := ⟨_, rfl⟩
    rw [hb] at ST ⊢
    clear hr hb EW
    go_loopw [17] (fun i wr => ∃ (k : Nat) (sa : Option Addr) (sn sc : Nat), k ≤ n ∧ i = .int .i64 k ∧ AppN W0 wr r b 3 (itF (fun i => plnI levels (items.getD i noI)) k) sa sn sc [] none 0 []) (fun i _ => n - (intOf i).toNat)
    case atStart => exact ⟨0, none, 0, 0, Nat.zero_le _, rfl, ST.out⟩
    case round =>
      obtain ⟨k, sa, sn, sc, hk, rfl, hap⟩ := hrel
      have AP := Lib.hid hap
      clear hap
      by_cases hlt : k < n
      · obtain ⟨ba, off, rfl, hbB, c0, c1, c2⟩ := AI.out _ _ hlt (below_then BW0.out AP.out.below)
        have CK := Lib.hid (fun W hb => CI.out k W hlt hb)
        have NX := Lib.hid (itF_succ (fun i => plnI levels (items.getD i noI)) k)
        obtain ⟨z, hz⟩ : ∃ z : It, plnI levels (items.getD k noI) = z := ⟨_, rfl⟩
        rw [hz] at CK NX
        change wr.cell? _ = some (.string (items.getD k noI).t) at c2
        obtain ⟨x, hx⟩ : ∃ x : It, items.getD k noI = x := ⟨_, rfl⟩
        rw [hx] at c0 c1 c2 CK
        have LN := Lib.hid (show (itF (fun i => plnI levels (items.getD i noI)) k).length ≤ 1048576 by rw [itF_len]; omega)
        have hbw : ba < wr.heap.size := Nat.lt_of_lt_of_le (Nat.lt_of_lt_of_le hbB hhi) (below_then BW0.out AP.out.below).size
        have FAR := Lib.hid (fun (C : Array Value) (q : Nat × TypeId × Array Value) (hq : q ∈ (wr.heap.size, 62, C) :: (w.heap.size, 32, #[.int .i64 kk, .slice (some ⟨ba, off, none⟩) n ci, .slice ap parts.length cp, .slice an names.length cn, .slice ac cls.length cc, .slice al nl cl, .int .i64 code, .int .i64 env]) :: [(r, 32, #[.int .i64 0, .slice none 0 0, .slice none 0 0, .slice none 0 0, .slice none 0 0, .slice none 0 0, .int .i64 0, .int .i64 0]), (b, 32, #[.int .i64 3, .slice sa sn sc, .slice none 0 0, .slice none 0 0, .slice none 0 0, .slice none 0 0, .int .i64 0, .int .i64 0])]) (j : Nat) (hj : (Value.slice sa sn sc).ownBlock = some j) => (by
          rcases List.mem_cons.1 hq with rfl | hq
          · exact AP.out.far (C := C) (List.Mem.head _) j hj
          rcases List.mem_cons.1 hq with rfl | hq
          · have := (AP.out.row.lt j hj).1; have := AP.out.o1; have := AP.out.o2; have := SW0.out; simp only; omega
          · exact AP.out.far (C := C) (List.Mem.tail _ hq) j hj : q.1 ≠ j))
        have W0L := Lib.hid (show W0.heap.size ≤ b + 1 by have := AP.out.o1; have := AP.out.o2; omega)
        have B0L := Lib.hid (show W0.heap.size ≤ b by have := AP.out.o1; have := AP.out.o2; omega)
        have KA := Lib.hid (blk_below AP.out.below KARG0.out)
        have hbb := AP.out.big
        clear hx hz
        go_wp2
        obtain ⟨w5, hw5⟩ : ∃ W, wr.alloc (.cells #[.int .i64 x.n, .int .i64 x.d, .string x.t] 62) = W := ⟨_, rfl⟩
        have KA := Lib.hid (blk_below (show Below wr.heap.size wr w5 from hw5 ▸ below1 wr _) KA.out)
        have AP := Lib.hid (show AppN W0 w5 r b 3 (itF (fun i => plnI levels (items.getD i noI)) k) sa sn sc [] none 0 [] from hw5 ▸ AP.out.keep (below1 wr _))
        have X1 := Lib.hid (show w5.heap[wr.heap.size]? = some (.cells #[.int .i64 x.n, .int .i64 x.d, .string x.t] 62 (0, 0)) from hw5 ▸ blk_new wr _ rfl)
        rw [hw5]
        clear hw5
        have H := Lib.hid (heldC_cons (heldC_cons AP.out.heldC KA.out) X1.out)
        refine run_region (ops := (opsOf Tryz.f65 7)) (S := fun w' => HeldC W0 w' ([(wr.heap.size, 62, #[.int .i64 x.n, .int .i64 x.d, .string x.t]), (w.heap.size, 32, #[.int .i64 kk, .slice (some ⟨ba, off, none⟩) n ci, .slice ap parts.length cp, .slice an names.length cn, .slice ac cls.length cc, .slice al nl cl, .int .i64 code, .int .i64 env]), (r, 32, #[.int .i64 0, .slice none 0 0, .slice none 0 0, .slice none 0 0, .slice none 0 0, .slice none 0 0, .int .i64 0, .int .i64 0]), (b, 32, #[.int .i64 3, .slice sa sn sc, .slice none 0 0, .slice none 0 0, .slice none 0 0, .slice none 0 0, .int .i64 0, .int .i64 0])])) [(0, true), (1, true), (2, true), (3, true), (4, true), (5, false), (6, false), (7, false), (8, true), (9, false)] (by kernel_rfl) (by kernel_rfl) (by kernel_rfl) (by kernel_rfl) (by kernel_rfl) (fun _ _ _ _ _ h => h) (heldC_drew H.out) ?_
        have H := Lib.hid (heldC_drew H.out)
        have AP := Lib.hid (AP.out.keep (below_drew' (Below.refl _ _)))
        refine runC_partV (b := b) (by kernel_rfl) (show opAt (opsOf Tryz.f65 7) 0 = some (some 21, .fieldAddr 32 (.tmp 3) 1, none) from by kernel_rfl) (by kernel_rfl) (by kernel_rfl) (by kernel_rfl) ?_
        refine runC_cell (b := b) (j := 1) (v := .slice sa sn sc) load_its (show opAt (opsOf Tryz.f65 7) 1 = some (some 22, .load 29 (.tmp 21), none) from by kernel_rfl) (by kernel_rfl) (by kernel_rfl) (by kernel_rfl) (List.Mem.tail _ (List.Mem.tail _ (List.Mem.tail _ (List.Mem.head _)))) rfl ?_
        refine runC_itm (b := wr.heap.size) (show opAt (opsOf Tryz.f65 7) 2 = some (some 23, .load 62 (.tmp 5), none) from by kernel_rfl) (by kernel_rfl) (by kernel_rfl) (by kernel_rfl) (List.Mem.head _) ?_
        refine runC_partV (b := w.heap.size) (by kernel_rfl) (show opAt (opsOf Tryz.f65 7) 3 = some (some 24, .fieldAddr 32 (.tmp 1) 5, none) from by kernel_rfl) (by kernel_rfl) (by kernel_rfl) (by kernel_rfl) ?_
        refine runC_cell (b := w.heap.size) (j := 5) (v := .slice al nl cl) load_strs (show opAt (opsOf Tryz.f65 7) 4 = some (some 25, .load 24 (.tmp 24), none) from by kernel_rfl) (by kernel_rfl) (by kernel_rfl) (by kernel_rfl) (List.Mem.tail _ (List.Mem.head _)) rfl ?_
        refine run_call (args := [.agg #[.int .i64 x.n, .int .i64 x.d, .string x.t], .slice al nl cl]) (show opAt (opsOf Tryz.f65 7) 5 = some (some 26, .call { callee := .value (.func 78), args := [(.tmp 23), (.tmp 25)].toArray, argTypes := [62, 24].toArray }, none) from by kernel_rfl) (by kernel_rfl) (by kernel_rfl) (by kernel_rfl) (by kernel_rfl) ?_
        refine (CK.out _ (below_then BW0.out H.out.1)).mono ?_
        rintro en rw1 ⟨rfl, hb⟩
        refine ⟨_, rfl, heldC_call H.out hb, ?_⟩
        have H := Lib.hid (heldC_call H.out hb)
        have AP := Lib.hid (AP.out.keep hb)
        clear hb
        refine tail_item2 z (show opAt (opsOf Tryz.f65 7) 6 = some (some 27, .buildSlice 29 1 #[(0, (.tmp 26))], none) from by kernel_rfl) (by kernel_rfl) (by kernel_rfl) (show opAt (opsOf Tryz.f65 7) 7 = some (some 28, .call { callee := .builtin .append, args := [(.tmp 22), (.tmp 27)].toArray, argTypes := [29, 29].toArray }, none) from by kernel_rfl) (by kernel_rfl) (fun _ => by kernel_rfl) (show opAt (opsOf Tryz.f65 7) 8 = some (some 29, .fieldAddr 32 (.tmp 3) 1, none) from by kernel_rfl) (by kernel_rfl) (by kernel_rfl) (fun _ _ => by kernel_rfl) (show opAt (opsOf Tryz.f65 7) 9 = some (none, .store 29 (.tmp 29) (.tmp 28), none) from by kernel_rfl) (by kernel_rfl) (by kernel_rfl) H.out AP.out.row LN.out (Nat.succ_le_of_lt (Array.getElem?_eq_some_iff.1 (heldC_at H.out (List.Mem.tail _ (List.Mem.tail _ (List.Mem.tail _ (List.Mem.head _)))))).1) W0L.out (List.Mem.tail _ (List.Mem.tail _ (List.Mem.tail _ (List.Mem.head _)))) rfl (Nat.lt_succ_self _) B0L.out (fun q hq => FAR.out _ q hq) ?_
        rintro v' w2 ⟨sa, sn, sc, rfl⟩ hK hO hB hZ hR hG
        simp only [putAll, Act.put, List.setIfInBounds_toArray, List.set_cons_zero, List.set_cons_succ]
        have AN := Lib.hid (AP.out.next hK hO hB (hR _ (List.Mem.tail _ (List.Mem.tail _ (List.Mem.head _))) (by have := AP.out.o2; simp only; omega)) (fun g hg => hG g (by have := AP.out.rng g hg; have := AP.out.big; omega) (by have := AP.out.rng g hg; omega) (fun j hj => by have := (AP.out.row.lt j hj).1; have := AP.out.rng g hg; omega)))
        clear hK hO hB hR hG H FAR LN
        go_wp2
        go_roundw
        case rel => exact ⟨k + 1, sa, sn, sc, by omega, by go_num, NX.out ▸ AN.out⟩
        case measure => simp [intOf]; omega
      · obtain rfl : k = n := by omega
        have K1 := Lib.hid AP.out.vec
        have K0 := Lib.hid AP.out.res
        have FN := Lib.hid AP.out.fin
        obtain ⟨k0, k1, k2, k3, k4, k5, k6, k7⟩ := vec8 K1.out
        obtain ⟨z0, z1, z2, z3, z4, z5, z6, z7⟩ := vec8 K0.out
        obtain ⟨f0, f1, f2, f3, f4, f5, f6, f7⟩ := free8 K0.out
        go_wp2
        rw [EV.out]
        exact vec_end rfl rfl rfl K0.out (FN.out.up BW0.out)
set_option maxHeartbeats 8000000 in
theorem implConv (d : Nat) (kk j : Int) (items : List It) (parts : List Vec) (names cls levels : List ByteArray) (code env : Int) (val : Value) (lo hi : Nat) (w : World) (hv : VecAt lo hi w d (.mk kk items parts names cls levels code env) val) (hhi : hi ≤ w.heap.size) (hk0 : 0 ≤ kk) (hkj : kk ≤ j) (hj : j ≤ 3) (li : items.length ≤ 40) (ln : names.length ≤ 1048576) (hit : ∀ i, i < items.length → ItOk kk (items.getD i noI)) (tab : Lib.TabIs Tryz.prog w "internal/strconv.uint64pow10" .u64 Lib.pow10Tab) :
    Calls Tryz.prog 64 #[val, .int .i64 j] w (ResV 1 (mkN j (cnvL kk j items) names) w) := by
  obtain ⟨d', ai, ci, ap, cp, an, cn, ac, cc, al, cl, ed, rfl, hI, hN, hC, hL, hP⟩ := vecAt_open hv
  have AI := Lib.hid (fun (k : Nat) (w1 : World) (hk : k < items.length) (hb : Below w.heap.size w w1) => (hI.below hb hhi).at_ hk)
  have CI := Lib.hid (fun (k : Nat) (W : World) (hk : k < items.length) (hb : Below w.heap.size w W) => implCnv kk j (items.getD k noI) W (hit k hk) hk0 hkj hj (tab_below tab hb))
  have CC := Lib.hid (fun (w1 : World) (hb : Below w.heap.size w w1) => implCopyAny names an cn lo hi w1 (hN.below hb hhi) ln)
  have EV := Lib.hid (show mkN j (cnvL kk j items) names = mkN j (itF (fun i => cnvI kk j (items.getD i noI)) items.length) names from rfl)
  obtain ⟨R, hR⟩ : ∃ R, mkN j (cnvL kk j items) names = R := ⟨_, rfl⟩
  rw [hR] at EV ⊢
  have hj4 : (j == 4) = false := by simp only [beq_eq_false_iff_ne, ne_eq]; omega
  clear hv hI hN hC hL hP ed hR hk0 hkj hit tab
  obtain ⟨W0, hW0⟩ : ∃ W, w.alloc (.cells #[.int .i64 kk, .slice ai items.length ci, .slice ap parts.length cp, .slice an names.length cn, .slice ac cls.length cc, .slice al levels.length cl, .int .i64 code, .int .i64 env] 32) = W := ⟨_, rfl⟩
  have BW0 := Lib.hid (show Below w.heap.size w W0 from hW0 ▸ below1 w _)
  have SW0 := Lib.hid (show W0.heap.size = w.heap.size + 1 by rw [← hW0]; simp)
  have KARG0 := Lib.hid (show W0.heap[w.heap.size]? = some (.cells #[.int .i64 kk, .slice ai items.length ci, .slice ap parts.length cp, .slice an names.length cn, .slice ac cls.length cc, .slice al levels.length cl, .int .i64 code, .int .i64 env] 32 (0, 0)) from hW0 ▸ blk_new w _ rfl)
  have EW := Lib.hid hW0
  clear hW0
  obtain ⟨n, hn⟩ : ∃ n, items.length = n := ⟨_, rfl⟩
  rw [hn] at AI CI KARG0 EW EV li ⊢
  clear hn
  go_enter Tryz.func64, Tryz.ntmps64
  go_wp2_with fail
  rw [EW.out]
  obtain ⟨w1, hw1⟩ : ∃ W, W0.alloc (.cells #[.int .i64 0, .slice none 0 0, .slice none 0 0, .slice none 0 0, .slice none 0 0, .slice none 0 0, .int .i64 0, .int .i64 0] 32) = W := ⟨_, rfl⟩
  have B1 := Lib.hid (show Below W0.heap.size W0 w1 from hw1 ▸ below1 W0 _)
  have KZ1 := Lib.hid (show w1.heap[W0.heap.size]? = some (.cells #[.int .i64 0, .slice none 0 0, .slice none 0 0, .slice none 0 0, .slice none 0 0, .slice none 0 0, .int .i64 0, .int .i64 0] 32 (0, 0)) from hw1 ▸ blk_new W0 _ rfl)
  have S1 : w1.heap.size = W0.heap.size + 1 := by rw [← hw1]; simp
  rw [hw1]
  clear hw1
  with_reducible refine (CC.out _ (below_then BW0.out B1.out)).mono ?_
  rintro e w4 ⟨v, rfl, ⟨na, nc, F, rfl, hT, hnd, hr, hcap⟩, b⟩
  have B4 := Lib.hid (below_then B1.out b)
  have KZ4 := Lib.hid (blk_below b KZ1.out)
  have KARG4 := Lib.hid (blk_below B4.out KARG0.out)
  have S4 := b.size
  have ST := Lib.hid (show AppN W0 (w4.alloc (.cells #[.int .i64 j, .slice none 0 0, .slice none 0 0, .slice na names.length nc, .slice none 0 0, .slice none 0 0, .int .i64 0, .int .i64 0] 32)) W0.heap.size w4.heap.size j (itF (fun i => cnvI kk j (items.getD i noI)) 0) none 0 0 names na nc F from
    ⟨blk_old KZ4.out, blk_new w4 _ rfl, ⟨rfl, .inl ⟨rfl, rfl⟩⟩, hT.kept (fun g hg => (below1 w4 _).block g (hr g hg).2), hcap, hnd, (fun g hg => by have h1 := hr g hg; omega), B4.out.alloc B4.out.size _, Nat.le_refl _, by omega⟩)
  clear b hT hnd hr hcap S4 S1
  have hltA := (Array.getElem?_eq_some_iff.1 KARG4.out).1
  obtain ⟨k0, k1, k2, k3, k4, k5, k6, k7⟩ := vec8 KARG4.out
  go_wp2
  rw [← SW0.out]
  clear k0 k1 k2 k3 k4 k5 k6 k7 hltA
  obtain ⟨r, hr⟩ : ∃ r, W0.heap.size = r := ⟨_, rfl⟩
  rw [hr] at ST ⊢
  obtain ⟨b, hb⟩ : ∃ b, w4.heap.size = b := ⟨_, rfl⟩
  rw [hb] at ST ⊢
  clear hr hb EW
  go_loopw [22] (fun i wr => ∃ (k : Nat) (sa : Option Addr) (sn sc : Nat), k ≤ n ∧ i = .int .i64 k ∧ AppN W0 wr r b j (itF (fun i => cnvI kk j (items.getD i noI)) k) sa sn sc names na nc F) (fun i _ => n - (intOf i).toNat)
  case atStart => exact ⟨0, none, 0, 0, Nat.zero_le _, rfl, ST.out⟩
  case round =>
    obtain ⟨k, sa, sn, sc, hk, rfl, hap⟩ := hrel
    have AP := Lib.hid hap
    clear hap
    by_cases hlt : k < n
    · obtain ⟨ba, off, rfl, hbB, c0, c1, c2⟩ := AI.out _ _ hlt (below_then BW0.out AP.out.below)
      have CK := Lib.hid (fun W hb => CI.out k W hlt hb)
      have NX := Lib.hid (itF_succ (fun i => cnvI kk j (items.getD i noI)) k)
      obtain ⟨z, hz⟩ : ∃ z : It, cnvI kk j (items.getD k noI) = z := ⟨_, rfl⟩
      rw [hz] at CK NX
      change wr.cell? _ = some (.string (items.getD k noI).t) at c2
      obtain ⟨x, hx⟩ : ∃ x : It, items.getD k noI = x := ⟨_, rfl⟩
      rw [hx] at c0 c1 c2 CK
      have LN := Lib.hid (show (itF (fun i => cnvI kk j (items.getD i noI)) k).length ≤ 1048576 by rw [itF_len]; omega)
      have hbw : ba < wr.heap.size := Nat.lt_of_lt_of_le (Nat.lt_of_lt_of_le hbB hhi) (below_then BW0.out AP.out.below).size
      have FAR := Lib.hid (fun (C : Array Value) (q : Nat × TypeId × Array Value) (hq : q ∈ (wr.heap.size, 62, C) :: (w.heap.size, 32, #[.int .i64 kk, .slice (some ⟨ba, off, none⟩) n ci, .slice ap parts.length cp, .slice an names.length cn, .slice ac cls.length cc, .slice al levels.length cl, .int .i64 code, .int .i64 env]) :: [(r, 32, #[.int .i64 0, .slice none 0 0, .slice none 0 0, .slice none 0 0, .slice none 0 0, .slice none 0 0, .int .i64 0, .int .i64 0]), (b, 32, #[.int .i64 j, .slice sa sn sc, .slice none 0 0, .slice na names.length nc, .slice none 0 0, .slice none 0 0, .int .i64 0, .int .i64 0])]) (j : Nat) (hj : (Value.slice sa sn sc).ownBlock = some j) => (by
        rcases List.mem_cons.1 hq with rfl | hq
        · exact AP.out.far (C := C) (List.Mem.head _) j hj
        rcases List.mem_cons.1 hq with rfl | hq
        · have := (AP.out.row.lt j hj).1; have := AP.out.o1; have := AP.out.o2; have := SW0.out; simp only; omega
        · exact AP.out.far (C := C) (List.Mem.tail _ hq) j hj : q.1 ≠ j))
      have W0L := Lib.hid (show W0.heap.size ≤ b + 1 by have := AP.out.o1; have := AP.out.o2; omega)
      have B0L := Lib.hid (show W0.heap.size ≤ b by have := AP.out.o1; have := AP.out.o2; omega)
      have KA := Lib.hid (blk_below AP.out.below KARG0.out)
      have hbb := AP.out.big
      clear hx hz
      go_wp2
      obtain ⟨w5, hw5⟩ : ∃ W, wr.alloc (.cells #[.int .i64 x.n, .int .i64 x.d, .string x.t] 62) = W := ⟨_, rfl⟩
      have KA := Lib.hid (blk_below (show Below wr.heap.size wr w5 from hw5 ▸ below1 wr _) KA.out)
      have AP := Lib.hid (show AppN W0 w5 r b j (itF (fun i => cnvI kk j (items.getD i noI)) k) sa sn sc names na nc F from hw5 ▸ AP.out.keep (below1 wr _))
      have X1 := Lib.hid (show w5.heap[wr.heap.size]? = some (.cells #[.int .i64 x.n, .int .i64 x.d, .string x.t] 62 (0, 0)) from hw5 ▸ blk_new wr _ rfl)
      rw [hw5]
      clear hw5
      have H := Lib.hid (heldC_cons (heldC_cons AP.out.heldC KA.out) X1.out)
      refine run_region (ops := (opsOf Tryz.f64 8)) (S := fun w' => HeldC W0 w' ([(wr.heap.size, 62, #[.int .i64 x.n, .int .i64 x.d, .string x.t]), (w.heap.size, 32, #[.int .i64 kk, .slice (some ⟨ba, off, none⟩) n ci, .slice ap parts.length cp, .slice an names.length cn, .slice ac cls.length cc, .slice al levels.length cl, .int .i64 code, .int .i64 env]), (r, 32, #[.int .i64 0, .slice none 0 0, .slice none 0 0, .slice none 0 0, .slice none 0 0, .slice none 0 0, .int .i64 0, .int .i64 0]), (b, 32, #[.int .i64 j, .slice sa sn sc, .slice none 0 0, .slice na names.length nc, .slice none 0 0, .slice none 0 0, .int .i64 0, .int .i64 0])])) [(0, true), (1, true), (2, true), (3, true), (4, true), (5, true), (6, false), (7, false), (8, false), (9, true), (10, false)] (by kernel_rfl) (by kernel_rfl) (by kernel_rfl) (by kernel_rfl) (by kernel_rfl) (fun _ _ _ _ _ h => h) (heldC_drew H.out) ?_
      have H := Lib.hid (heldC_drew H.out)
      have AP := Lib.hid (AP.out.keep (below_drew' (Below.refl _ _)))
      refine runC_partV (b := b) (by kernel_rfl) (show opAt (opsOf Tryz.f64 8) 0 = some (some 26, .fieldAddr 32 (.tmp 5) 1, none) from by kernel_rfl) (by kernel_rfl) (by kernel_rfl) (by kernel_rfl) ?_
      refine runC_cell (b := b) (j := 1) (v := .slice sa sn sc) load_its (show opAt (opsOf Tryz.f64 8) 1 = some (some 27, .load 29 (.tmp 26), none) from by kernel_rfl) (by kernel_rfl) (by kernel_rfl) (by kernel_rfl) (List.Mem.tail _ (List.Mem.tail _ (List.Mem.tail _ (List.Mem.head _)))) rfl ?_
      refine runC_itm (b := wr.heap.size) (show opAt (opsOf Tryz.f64 8) 2 = some (some 28, .load 62 (.tmp 7), none) from by kernel_rfl) (by kernel_rfl) (by kernel_rfl) (by kernel_rfl) (List.Mem.head _) ?_
      refine runC_partV (b := w.heap.size) (by kernel_rfl) (show opAt (opsOf Tryz.f64 8) 3 = some (some 29, .fieldAddr 32 (.tmp 2) 0, none) from by kernel_rfl) (by kernel_rfl) (by kernel_rfl) (by kernel_rfl) ?_
      refine runC_cell (b := w.heap.size) (j := 0) (v := .int .i64 kk) load_int (show opAt (opsOf Tryz.f64 8) 4 = some (some 30, .load 3 (.tmp 29), none) from by kernel_rfl) (by kernel_rfl) (by kernel_rfl) (by kernel_rfl) (List.Mem.tail _ (List.Mem.head _)) rfl ?_
      refine run_mov (v := .int .i64 j) (show opAt (opsOf Tryz.f64 8) 5 = some (some 31, .move (.tmp 1), none) from by kernel_rfl) (by kernel_rfl) (by kernel_rfl) (by kernel_rfl) ?_
      refine run_call (args := [.agg #[.int .i64 x.n, .int .i64 x.d, .string x.t], .int .i64 kk, .int .i64 j]) (show opAt (opsOf Tryz.f64 8) 6 = some (some 32, .call { callee := .value (.func 77), args := [(.tmp 28), (.tmp 30), (.tmp 31)].toArray, argTypes := [62, 3, 3].toArray }, none) from by kernel_rfl) (by kernel_rfl) (by kernel_rfl) (by kernel_rfl) (by kernel_rfl) ?_
      refine (CK.out _ (below_then BW0.out H.out.1)).mono ?_
      rintro en rw1 ⟨rfl, hb⟩
      refine ⟨_, rfl, heldC_call H.out hb, ?_⟩
      have H := Lib.hid (heldC_call H.out hb)
      have AP := Lib.hid (AP.out.keep hb)
      clear hb
      refine tail_item2 z (show opAt (opsOf Tryz.f64 8) 7 = some (some 33, .buildSlice 29 1 #[(0, (.tmp 32))], none) from by kernel_rfl) (by kernel_rfl) (by kernel_rfl) (show opAt (opsOf Tryz.f64 8) 8 = some (some 34, .call { callee := .builtin .append, args := [(.tmp 27), (.tmp 33)].toArray, argTypes := [29, 29].toArray }, none) from by kernel_rfl) (by kernel_rfl) (fun _ => by kernel_rfl) (show opAt (opsOf Tryz.f64 8) 9 = some (some 35, .fieldAddr 32 (.tmp 5) 1, none) from by kernel_rfl) (by kernel_rfl) (by kernel_rfl) (fun _ _ => by kernel_rfl) (show opAt (opsOf Tryz.f64 8) 10 = some (none, .store 29 (.tmp 35) (.tmp 34), none) from by kernel_rfl) (by kernel_rfl) (by kernel_rfl) H.out AP.out.row LN.out (Nat.succ_le_of_lt (Array.getElem?_eq_some_iff.1 (heldC_at H.out (List.Mem.tail _ (List.Mem.tail _ (List.Mem.tail _ (List.Mem.head _)))))).1) W0L.out (List.Mem.tail _ (List.Mem.tail _ (List.Mem.tail _ (List.Mem.head _)))) rfl (Nat.lt_succ_self _) B0L.out (fun q hq => FAR.out _ q hq) ?_
      rintro v' w2 ⟨sa, sn, sc, rfl⟩ hK hO hB hZ hR hG
      simp only [putAll, Act.put, List.setIfInBounds_toArray, List.set_cons_zero, List.set_cons_succ]
      have AN := Lib.hid (AP.out.next hK hO hB (hR _ (List.Mem.tail _ (List.Mem.tail _ (List.Mem.head _))) (by have := AP.out.o2; simp only; omega)) (fun g hg => hG g (by have := AP.out.rng g hg; have := AP.out.big; omega) (by have := AP.out.rng g hg; omega) (fun j hj => by have := (AP.out.row.lt j hj).1; have := AP.out.rng g hg; omega)))
      clear hK hO hB hR hG H FAR LN
      go_wp2
      go_roundw
      case rel => exact ⟨k + 1, sa, sn, sc, by omega, by go_num, NX.out ▸ AN.out⟩
      case measure => simp [intOf]; omega
    · obtain rfl : k = n := by omega
      have K1 := Lib.hid AP.out.vec
      have K0 := Lib.hid AP.out.res
      have FN := Lib.hid AP.out.fin
      obtain ⟨k0, k1, k2, k3, k4, k5, k6, k7⟩ := vec8 K1.out
      obtain ⟨z0, z1, z2, z3, z4, z5, z6, z7⟩ := vec8 K0.out
      obtain ⟨f0, f1, f2, f3, f4, f5, f6, f7⟩ := free8 K0.out
      go_wp2
      rw [EV.out]
      exact vec_end rfl rfl rfl K0.out (FN.out.up BW0.out)
end Go.Proofs.YtddebgmjolojeaaGreatDoor

/- What a loop that appends items to a vector keeps: all blocks of the world ahead of it but the vector's own. -/
namespace Go.Proofs.YtddebgmjolojeaaGreatDoor
open Go.RowKit
set_option maxRecDepth 100000
set_option linter.unusedVariables false

structure AppK (w w0 wr : World) (b : Nat) (kind : Int) (l : List It) (sa : Option Addr) (sn sc : Nat) (na : Option Addr) (nn nc : Nat) : Prop where
  vec : wr.heap[b]? = some (.cells #[.int .i64 kind, .slice sa sn sc, .slice none 0 0, .slice na nn nc, .slice none 0 0, .slice none 0 0, .int .i64 0, .int .i64 0] 32 (0, 0))
  row : wr.ownsRow w0.heap.size 62 3 (.slice sa sn sc) l.length (itCells l)
  kept : ∀ g, g < w0.heap.size → g ≠ b → wr.heap[g]? = w0.heap[g]?
  size : w0.heap.size ≤ wr.heap.size
  below : Below w.heap.size w wr
  lt : b < w0.heap.size
  ge : w.heap.size ≤ b
theorem AppK.start {w w0 : World} {b : Nat} {kind : Int} {na : Option Addr} {nn nc : Nat} (h : w0.heap[b]? = some (.cells #[.int .i64 kind, .slice none 0 0, .slice none 0 0, .slice na nn nc, .slice none 0 0, .slice none 0 0, .int .i64 0, .int .i64 0] 32 (0, 0))) (hB : Below w.heap.size w w0) (hb : w.heap.size ≤ b) : AppK w w0 w0 b kind [] none 0 0 na nn nc :=
  ⟨h, ⟨rfl, .inl ⟨rfl, rfl⟩⟩, fun _ _ _ => rfl, Nat.le_refl _, hB, (Array.getElem?_eq_some_iff.1 h).1, hb⟩
theorem AppK.keep {w w0 wr w1 : World} {b : Nat} {kind : Int} {l : List It} {sa : Option Addr} {sn sc : Nat} {na : Option Addr} {nn nc : Nat} (h : AppK w w0 wr b kind l sa sn sc na nn nc) (hb : Below wr.heap.size wr w1) : AppK w w0 w1 b kind l sa sn sc na nn nc :=
  ⟨blk_below hb h.vec, ownsRow_below h.row hb, fun g hg hn => (hb.block g (Nat.lt_of_lt_of_le hg h.size)).trans (h.kept g hg hn), Nat.le_trans h.size hb.size, below_then h.below hb, h.lt, h.ge⟩
theorem AppK.blk {w w0 wr : World} {b : Nat} {kind : Int} {l : List It} {sa : Option Addr} {sn sc : Nat} {na : Option Addr} {nn nc : Nat} (h : AppK w w0 wr b kind l sa sn sc na nn nc) {g : Nat} {o : Obj} (hg : w0.heap[g]? = some o) (hn : g ≠ b) : wr.heap[g]? = some o := (h.kept g (Array.getElem?_eq_some_iff.1 hg).1 hn).trans hg
theorem AppK.far {w w0 wr : World} {b : Nat} {kind : Int} {l : List It} {sa : Option Addr} {sn sc : Nat} {na : Option Addr} {nn nc : Nat} (h : AppK w w0 wr b kind l sa sn sc na nn nc) {g j : Nat} (hj : (Value.slice sa sn sc).ownBlock = some j) (hg : g < w0.heap.size ∨ wr.heap.size ≤ g) : g ≠ j := by
  have := h.row.lt j hj
  omega
theorem AppK.next {w w0 wr W : World} {b : Nat} {kind : Int} {l : List It} {z : It} {sa sa' : Option Addr} {sn sc sn' sc' : Nat} {na : Option Addr} {nn nc : Nat} (h : AppK w w0 wr b kind l sa sn sc na nn nc)
    (hK : W.heap[b]? = some (.cells (#[.int .i64 kind, .slice sa sn sc, .slice none 0 0, .slice na nn nc, .slice none 0 0, .slice none 0 0, .int .i64 0, .int .i64 0].setIfInBounds 1 (.slice sa' sn' sc')) 32 (0, 0)))
    (hO : W.ownsRow w0.heap.size 62 3 (.slice sa' sn' sc') (l ++ [z]).length (itCells (l ++ [z]))) (hB : Below w.heap.size w W) (hZ : wr.heap.size ≤ W.heap.size)
    (hG : ∀ g, g < wr.heap.size → g ≠ b → (∀ k, (Value.slice sa sn sc).ownBlock = some k → g ≠ k) → W.heap[g]? = wr.heap[g]?) : AppK w w0 W b kind (l ++ [z]) sa' sn' sc' na nn nc :=
  ⟨hK, hO, fun g hg hn => (hG g (Nat.lt_of_lt_of_le hg h.size) hn (fun k hk => h.far hk (.inl hg))).trans (h.kept g hg hn), Nat.le_trans h.size hZ, hB, h.lt, h.ge⟩
/-- The vector that the loop has made. -/
theorem AppK.own {w w0 wr : World} {b : Nat} {kind : Int} {l : List It} {sa : Option Addr} {sn sc : Nat} {na : Option Addr} {nc : Nat} {names : List ByteArray} {F : List Nat} (h : AppK w w0 wr b kind l sa sn sc na names.length nc)
    (hT : OwnTxs w0 na names F) (hnd : F.Nodup) (hF : ∀ g ∈ F, w.heap.size ≤ g ∧ g < w0.heap.size ∧ g ≠ b) (hc : names.length ≤ nc) : ∃ G, OwnVec wr 1 (mkN kind l names) (.agg #[.int .i64 kind, .slice sa sn sc, .slice none 0 0, .slice na names.length nc, .slice none 0 0, .slice none 0 0, .int .i64 0, .int .i64 0]) G ∧ G.Nodup ∧ ∀ g ∈ G, w.heap.size ≤ g ∧ g < wr.heap.size ∧ (w0.heap.size ≤ g ∨ g ∈ F) := by
  obtain ⟨a, c, Fi, e, ho, hn, hr, hc'⟩ := own_of_its h.row
  obtain ⟨rfl, rfl, rfl⟩ : sa = a ∧ sn = l.length ∧ sc = c := by simpa using e
  have h0 : w.heap.size ≤ w0.heap.size := Nat.le_trans h.ge (Nat.le_of_lt h.lt)
  refine ⟨Fi ++ F, ?_, ?_, ?_⟩
  · show OwnVec wr 1 (.mk kind l [] names [] [] 0 0) _ _
    unfold OwnVec
    exact ⟨sa, sc, none, 0, na, nc, none, 0, none, 0, Fi, [], F, [], [], rfl, by simp, ⟨hc', Nat.le_refl _, hc, Nat.le_refl _, Nat.le_refl _⟩, ho, hT.kept (fun g hg => h.kept g (hF g hg).2.1 (hF g hg).2.2), .inl ⟨rfl, rfl⟩, .inl ⟨rfl, rfl⟩, .inl ⟨rfl, rfl⟩⟩
  · rw [List.nodup_append]
    exact ⟨hn, hnd, fun x hx y hy e => by have := hr x hx; have := hF y hy; omega⟩
  · intro g hg
    have h3 := h.size
    rcases List.mem_append.1 hg with hg | hg
    · have := hr g hg; exact ⟨by omega, by omega, .inl this.1⟩
    · have := hF g hg; exact ⟨by omega, by omega, .inr hg⟩
theorem AppK.fin {w w0 wr : World} {b r : Nat} {kind : Int} {l : List It} {sa : Option Addr} {sn sc : Nat} {na : Option Addr} {nc : Nat} {names : List ByteArray} {F : List Nat} (h : AppK w w0 wr b kind l sa sn sc na names.length nc)
    (hT : OwnTxs w0 na names F) (hnd : F.Nodup) (hF : ∀ g ∈ F, w.heap.size ≤ g ∧ g < w0.heap.size ∧ g ≠ b ∧ g ≠ r) (hc : names.length ≤ nc) (hr : w.heap.size ≤ r ∧ r < w0.heap.size) : ResV 1 (mkN kind l names) w (.returned (.agg #[.int .i64 kind, .slice sa sn sc, .slice none 0 0, .slice na names.length nc, .slice none 0 0, .slice none 0 0, .int .i64 0, .int .i64 0])) (put8 wr r 0 (.int .i64 kind) (.slice sa sn sc) (.slice none 0 0) (.slice na names.length nc) (.slice none 0 0) (.slice none 0 0) (.int .i64 0) (.int .i64 0)) := by
  obtain ⟨G, ho, hn, hg⟩ := h.own hT hnd (fun g hg => ⟨(hF g hg).1, (hF g hg).2.1, (hF g hg).2.2.1⟩) hc
  refine ⟨_, rfl, ⟨G, ho.kept _ _ _ _ (fun g hg' => put8_other ?_), hn, fun g hg' => by rw [put8_size]; have := hg g hg'; omega⟩, put8_below h.below hr.1⟩
  rcases (hg g hg').2.2 with h1 | h1
  · omega
  · exact (hF g h1).2.2.2
/-- Items that lie in blocks of the world ahead of the loop, other than the vector's. -/
theorem ItemsAt.loopK {w0 wr : World} {a : Option Addr} {l : List It} {lo hi b : Nat} (h : ItemsAt lo hi w0 a l) (hb : b < lo ∨ hi ≤ b) (hhi : hi ≤ w0.heap.size) (k : ∀ g, g < w0.heap.size → g ≠ b → wr.heap[g]? = w0.heap[g]?) {i : Nat} (hi' : i < l.length) :
    ∃ ba off, a = some ⟨ba, off, none⟩ ∧ ba < w0.heap.size ∧ wr.cell? ⟨ba, off + i * 3, none⟩ = some (.int .i64 (l.getD i noI).n) ∧ wr.cell? ⟨ba, off + i * 3 + 1, none⟩ = some (.int .i64 (l.getD i noI).d) ∧ wr.cell? ⟨ba, off + i * 3 + 2, none⟩ = some (.string (l.getD i noI).t) := by
  have hk : ItemsAt lo hi wr a l := h.kept (fun g o h1 h2 => by simp only [World.cell?]; rw [k g (by omega) (by omega)])
  obtain ⟨ba, off, e, hlt, c0, c1, c2⟩ := hk.at_ hi'
  exact ⟨ba, off, e, by omega, c0, c1, c2⟩
end Go.Proofs.YtddebgmjolojeaaGreatDoor

/- CountBytes as data; that of the program. -/
namespace Go.Proofs.YtddebgmjolojeaaGreatDoor
open Go.RowKit
set_option maxRecDepth 100000
set_option linter.unusedVariables false

/-- The elements as texts. -/
def txsL (kk : Int) (items : List It) (levels : List ByteArray) : List It := cnvL (plnK kk levels) 3 (plnL levels items)
theorem txsL_len (kk : Int) (items : List It) (levels : List ByteArray) : (txsL kk items levels).length = items.length := by unfold txsL; rw [cnvL_len, plnL_len]
theorem txsL_ok {kk : Int} {items : List It} {levels : List ByteArray} (ok : AtmOk kk items levels) {i : Nat} (hi : i < (txsL kk items levels).length) : ItOk 3 ((txsL kk items levels).getD i noI) := by
  rw [txsL_len] at hi
  exact ok.cnv ok.pk.2.1 (Int.le_refl _) hi
/-- What CountBytes answers. -/
noncomputable def cbV (v : Vec) : Vec := match bB (atmS v = ⟨#[]⟩), v with
  | true, .mk kk items _ names _ levels _ _ => mkN 2 (itF (fun i => bytI ((txsL kk items levels).getD i noI)) (txsL kk items levels).length) names
  | false, _ => noV
theorem field_its {w : World} {c0 c2 c3 c4 c5 c6 c7 : Value} {a : Option Addr} {n c : Nat} : (Instr.field 32 (.agg #[c0, .slice a n c, c2, c3, c4, c5, c6, c7]) 1).run Tryz.prog w = .ok (.slice a n c) w := by
  kernel_rfl
set_option maxHeartbeats 4000000 in
theorem implPlainTexts (d : Nat) (kk : Int) (items : List It) (parts : List Vec) (names cls levels : List ByteArray) (code env : Int) (val : Value) (lo hi : Nat) (w : World) (hv : VecAt lo hi w d (.mk kk items parts names cls levels code env) val) (hhi : hi ≤ w.heap.size) (ok : AtmOk kk items levels) (tab : Lib.TabIs Tryz.prog w "internal/strconv.uint64pow10" .u64 Lib.pow10Tab) :
    Calls Tryz.prog 51 #[val] w fun e w' => (∃ a c, e = .returned (.slice a (txsL kk items levels).length c) ∧ ItemsAt w.heap.size w'.heap.size w' a (txsL kk items levels)) ∧ Below w.heap.size w w' := by
  have CP := Lib.hid (fun (W : World) (hb : Below w.heap.size w W) => implPlain d kk items parts names cls levels code env val lo hi W (hv.below hb hhi) (Nat.le_trans hhi hb.size) ok)
  have hpk := ok.pk
  have CC := Lib.hid (fun (W : World) (y : Value) (h : VecAt 0 W.heap.size W 1 (vecOf (plnK kk levels) (plnL levels items)) y) (hb : Below w.heap.size w W) => (by have q := implConv 1 (plnK kk levels) 3 (plnL levels items) [] [] [] [] 0 0 y 0 W.heap.size W h (Nat.le_refl _) hpk.1 hpk.2.1 (Int.le_refl _) (by rw [plnL_len]; exact ok.len) (by simp) (fun i hi => ok.pln (by rwa [plnL_len] at hi)) (tab_below tab hb); exact q : Calls Tryz.prog 64 #[y, .int .i64 3] W (ResV 1 (mkN 3 (txsL kk items levels) []) W)))
  obtain ⟨X, hX⟩ : ∃ X, txsL kk items levels = X := ⟨_, rfl⟩
  rw [hX] at CC ⊢
  obtain ⟨d', ai, ci, ap, cp, an, cn, ac, cc, al, cl, ed, rfl, hI, hN, hC, hL, hP⟩ := vecAt_open hv
  clear hv hI hN hC hL hP ed hX ok hpk tab
  have B0 := Lib.hid (below1 w (.cells #[.int .i64 kk, .slice ai items.length ci, .slice ap parts.length cp, .slice an names.length cn, .slice ac cls.length cc, .slice al levels.length cl, .int .i64 code, .int .i64 env] 32))
  go_enter Tryz.func51, Tryz.ntmps51
  go_wp2_with fail
  with_reducible refine (CP.out _ B0.out).mono ?_
  rintro e w2 ⟨y, rfl, ho, b⟩
  have B2 := Lib.hid (below_then B0.out b)
  have O2 := Lib.hid (ho.vat (Nat.le_refl _))
  clear ho b
  go_wp2_with fail
  with_reducible refine (CC.out _ _ O2.out B2.out).mono ?_
  rintro e w3 ⟨y3, rfl, ho, b⟩
  have hv3 := ho.vatL (Nat.le_refl _) (Nat.le_refl _)
  obtain ⟨d3, bi, di, bp, dp, bn, dn, bc, dc, bl, dl, ed, rfl, hI, _⟩ := vecAt_open (show VecAt w2.heap.size w3.heap.size w3 1 (.mk 3 X [] [] [] [] 0 0) y3 from hv3)
  have HI := Lib.hid (hI.wide B2.out.size (Nat.le_refl _))
  have B3 := Lib.hid (below_then B2.out b)
  clear hv3 ed hI ho b
  have EF := field_its (w := w3) (c0 := .int .i64 3) (a := bi) (n := X.length) (c := di) (c2 := .slice bp 0 dp) (c3 := .slice bn 0 dn) (c4 := .slice bc 0 dc) (c5 := .slice bl 0 dl) (c6 := .int .i64 0) (c7 := .int .i64 0)
  go_wp2
  go_ret
  exact ⟨⟨_, _, rfl, HI.out⟩, B3.out⟩
end Go.Proofs.YtddebgmjolojeaaGreatDoor

/- MakeFactorWith as data; a vector of items, names, one class and levels that a call makes. -/
namespace Go.Proofs.YtddebgmjolojeaaGreatDoor
open Go.RowKit
set_option maxRecDepth 100000
set_option linter.unusedVariables false

/-- The problem of a list of levels. -/
noncomputable def lvS (lv : List ByteArray) : ByteArray := match bB (lv.length = 0), bB (LabelsOk (txtS lv) lv.length 20) with
  | true, _ => nolB
  | false, true => ⟨#[]⟩
  | false, false => levB
theorem lvS_none {lv : List ByteArray} (h : lv.length = 0) : lvS lv = nolB := by unfold lvS; rw [bB_yes h]
theorem lvS_bad {lv : List ByteArray} (h : ¬ lv.length = 0) (h1 : ¬ LabelsOk (txtS lv) lv.length 20) : lvS lv = levB := by unfold lvS; rw [bB_no h, bB_no h1]
theorem lvS_yes {lv : List ByteArray} (h : ¬ lv.length = 0) (h1 : LabelsOk (txtS lv) lv.length 20) : lvS lv = ⟨#[]⟩ := by unfold lvS; rw [bB_no h, bB_yes h1]
/-- What MakeFactorWith says and answers. -/
noncomputable def mfS (v : Vec) (lv : List ByteArray) : ByteArray := match bB (atmS v = ⟨#[]⟩) with
  | true => lvS lv
  | false => atmS v
noncomputable def mfV (v : Vec) (lv : List ByteArray) : Vec := match bB (mfS v lv = ⟨#[]⟩), v with
  | true, .mk kk items _ names _ levels _ _ => facR lv (txsL kk items levels) names
  | false, _ => noV
theorem mf_not {v : Vec} {lv : List ByteArray} (h : ¬ mfS v lv = ⟨#[]⟩) : mfV v lv = noV := by unfold mfV; rw [bB_no h]
theorem mf_atm {v : Vec} {lv : List ByteArray} (h : ¬ atmS v = ⟨#[]⟩) : mfV v lv = noV ∧ mfS v lv = atmS v := by
  have e : mfS v lv = atmS v := by unfold mfS; rw [bB_no h]
  exact ⟨mf_not (by rw [e]; exact h), e⟩
theorem mf_lv {v : Vec} {lv : List ByteArray} (h : atmS v = ⟨#[]⟩) : mfS v lv = lvS lv := by unfold mfS; rw [bB_yes h]
theorem mf_none {v : Vec} {lv : List ByteArray} (h : atmS v = ⟨#[]⟩) (h0 : lv.length = 0) : mfV v lv = noV ∧ mfS v lv = nolB := by
  have e : mfS v lv = nolB := by rw [mf_lv h, lvS_none h0]
  exact ⟨mf_not (by rw [e]; decide), e⟩
theorem mf_bad {v : Vec} {lv : List ByteArray} (h : atmS v = ⟨#[]⟩) (h0 : ¬ lv.length = 0) (h1 : ¬ LabelsOk (txtS lv) lv.length 20) : mfV v lv = noV ∧ mfS v lv = levB := by
  have e : mfS v lv = levB := by rw [mf_lv h, lvS_bad h0 h1]
  exact ⟨mf_not (by rw [e]; decide), e⟩
theorem mf_yes {kk : Int} {items : List It} {parts : List Vec} {names cls levels : List ByteArray} {code env : Int} {lv : List ByteArray} (h : atmS (.mk kk items parts names cls levels code env) = ⟨#[]⟩) (h0 : ¬ lv.length = 0) (h1 : LabelsOk (txtS lv) lv.length 20) :
    mfV (.mk kk items parts names cls levels code env) lv = facR lv (txsL kk items levels) names ∧ mfS (.mk kk items parts names cls levels code env) lv = ⟨#[]⟩ := by
  have e : mfS (.mk kk items parts names cls levels code env) lv = ⟨#[]⟩ := by rw [mf_lv h, lvS_yes h0 h1]
  exact ⟨by unfold mfV; rw [bB_yes e], e⟩
theorem fac_own {L : List It} {names lv : List ByteArray} {s : ByteArray} {ai an al pa : Option Addr} {ci cn cl pc nc l1 h1 l2 h2 l3 h3 lo : Nat} {Fi Fn Fl : List Nat} {w : World} (hI : ItsC ai ci L Fi l1 h1 w) (hN : TxsC an cn names Fn l2 h2 w) (hC : NewB nc 9 #[.string s] w) (hL : TxsC al cl lv Fl l3 h3 w)
    (e0 : lo ≤ l1) (e1 : l1 ≤ h1) (e12 : h1 ≤ l2) (e2 : l2 ≤ h2) (e23 : h2 ≤ l3) (e3 : l3 ≤ h3) (ec : (lo ≤ nc ∧ nc < l1) ∨ (h1 ≤ nc ∧ nc < l2) ∨ (h2 ≤ nc ∧ nc < l3) ∨ h3 ≤ nc) :
    Own 1 (.mk 2 L [] names [s] lv 0 0) (.agg #[.int .i64 2, .slice ai L.length ci, .slice pa 0 pc, .slice an names.length cn, .slice (some ⟨nc, 0, none⟩) 1 1, .slice al lv.length cl, .int .i64 0, .int .i64 0]) lo w.heap.size w := by
  have hnl := (Array.getElem?_eq_some_iff.1 hC.out).1
  have q1 := hI.hw
  have q2 := hN.hw
  have q3 := hL.hw
  refine ⟨Fi ++ ([] ++ (Fn ++ ([nc] ++ Fl))), ?_, ?_, ?_⟩
  · unfold OwnVec
    exact ⟨ai, ci, pa, pc, an, cn, some ⟨nc, 0, none⟩, 1, al, cl, Fi, [], Fn, [nc], Fl, rfl, rfl, ⟨hI.cap, Nat.zero_le _, hN.cap, Nat.le_refl _, hL.cap⟩, hI.own, hN.own, one_own (fr := (0, 0)) hC.out, hL.own, .inl ⟨rfl, rfl⟩⟩
  · rw [List.nil_append, List.nodup_append, List.nodup_append, List.nodup_append]
    refine ⟨hI.nd, ⟨hN.nd, ⟨by simp, hL.nd, fun x hx y hy e => ?_⟩, fun x hx y hy e => ?_⟩, fun x hx y hy e => ?_⟩
    · obtain rfl := List.mem_singleton.1 hx
      have := hL.rg y hy
      omega
    · have a1 := hN.rg x hx
      rcases List.mem_append.1 hy with hy | hy
      · obtain rfl := List.mem_singleton.1 hy; omega
      · have := hL.rg y hy; omega
    · have a1 := hI.rg x hx
      rcases List.mem_append.1 hy with hy | hy
      · have := hN.rg y hy; omega
      · rcases List.mem_append.1 hy with hy | hy
        · obtain rfl := List.mem_singleton.1 hy; omega
        · have := hL.rg y hy; omega
  · intro g hg
    rw [List.nil_append] at hg
    rcases List.mem_append.1 hg with hg | hg
    · have := hI.rg g hg; omega
    · rcases List.mem_append.1 hg with hg | hg
      · have := hN.rg g hg; omega
      · rcases List.mem_append.1 hg with hg | hg
        · obtain rfl := List.mem_singleton.1 hg; omega
        · have := hL.rg g hg; omega
theorem below_new {w W : World} {o : Obj} (h : W = w.alloc o) : Below w.heap.size w W := h ▸ below1 w o
theorem newB_of {w W : World} {n : Nat} {t : TypeId} {C : Array Value} (h : W = w.alloc (.cells C t)) (hn : n = w.heap.size) : NewB n t C W := ⟨by rw [h]; exact blk_new _ _ hn⟩
theorem size_new {w W : World} {n : Nat} {o : Obj} (h : W = w.alloc o) (hn : n = w.heap.size) : w.heap.size = n ∧ n + 1 = W.heap.size := ⟨hn.symm, by rw [h, hn]; simp⟩
theorem bld_tx (s : ByteArray) (v : World) : (Instr.buildSlice 24 1 #[(0, .string s)]).run Tryz.prog v = .ok (.slice (some ⟨v.heap.size, 0, none⟩) 1 1) (v.alloc (.cells #[.string s] 9)) := by
  obtain ⟨ie, hie, hz, hsz, _⟩ := info_parts infoStr
  exact run_buildSlice (P := Tryz.prog) v _ 9 1 #[(0, .string s)] _ ie _ Tryz.underlying24 hie hz (by rw [hsz]; decide) (by rw [hsz]; decide) (by rw [hsz]; exact fill_txt s)
theorem infoSls : (Tryz.prog.info? 24).map (fun i => (i.zero, i.size, i.bytes)) = some (some (.slice none 0 0), 1, 24) := by kernel_rfl
theorem fill_sl (a : Option Addr) (n c : Nat) : Instr.fill (fun i => some (i * 1, 1)) ((Array.range (1 * 1)).map ((Value.slice none 0 0).cells[· % (Value.slice none 0 0).cells.size]!)) [(0, .slice a n c)] = some #[.slice a n c] := by
  have h := Great.fill_whole (s := 1) (by decide) [.slice a n c] ((Array.range (1 * 1)).map ((Value.slice none 0 0).cells[· % (Value.slice none 0 0).cells.size]!)) (fun v hv => by obtain rfl := List.mem_singleton.1 hv; rfl) (by simp)
  exact h
theorem bld_sl (a : Option Addr) (n c : Nat) (v : World) : (Instr.buildSlice 72 1 #[(0, .slice a n c)]).run Tryz.prog v = .ok (.slice (some ⟨v.heap.size, 0, none⟩) 1 1) (v.alloc (.cells #[.slice a n c] 24)) := by
  obtain ⟨ie, hie, hz, hsz, _⟩ := info_parts infoSls
  exact run_buildSlice (P := Tryz.prog) v _ 24 1 #[(0, .slice a n c)] _ ie _ Tryz.underlying72 hie hz (by rw [hsz]; decide) (by rw [hsz]; decide) (by rw [hsz]; exact fill_sl a n c)
theorem build_fac {w : World} {a b c d : Option Addr} {n m n' m' p q p' q' : Nat} : (Instr.build 32 #[(0, .int .i64 2), (1, .slice a n m), (3, .slice b n' m'), (4, .slice c p q), (5, .slice d p' q')]).run Tryz.prog w = .ok (.agg #[.int .i64 2, .slice a n m, .slice none 0 0, .slice b n' m', .slice c p q, .slice d p' q', .int .i64 0, .int .i64 0]) w := by
  kernel_rfl
section
variable {ops : Array Oper} {Q : Exit → Act → World → Prop} {S : World → Prop}
variable {r : List (Nat × Bool)} {a : Act} {e : List (Nat × Value)} {w : World} {i d : Nat} {g : Option (Nat × Bool)}
/-- A slice literal of one element, its block named. -/
theorem run_bldS {P : Program} {t el : TypeId} {x : Operand} {u : Value} (ho : opAt ops i = some (some d, .buildSlice t 1 #[(0, x)], g)) (hd : Nat.blt d a.tmps.size = true) (hw : wantE ops a e g = some true) (hx : lookO a e x = u)
    (hb : ∀ v : World, (Instr.buildSlice t 1 #[(0, u)]).run P v = .ok (.slice (some ⟨v.heap.size, 0, none⟩) 1 1) (v.alloc (.cells #[u] el)))
    (h : ∀ W n, W = w.alloc (.cells #[u] el) → n = w.heap.size → S W ∧ RunE P ops Q S r a ((d, .slice (some ⟨n, 0, none⟩) 1 1) :: e) W) : RunE P ops Q S ((i, false) :: r) a e w := by
  obtain ⟨hS, hR⟩ := h _ _ rfl rfl
  refine run_eff ho hd hw (fun o h1 => ?_) hS hR
  unfold execOp
  simp only [h1, List.map_toArray, List.map_cons, List.map_nil, hx, Sem.run_bind, hb w, Result.andThen_ok]
  rfl
theorem run_bldFac {x y z u : Operand} {sa sb sc sd : Option Addr} {n m n' m' p q p' q' : Nat} (ho : opAt ops i = some (some d, .build 32 #[(0, .const (.int .i64 2)), (1, x), (3, y), (4, z), (5, u)], g)) (hd : Nat.blt d a.tmps.size = true) (hw : wantE ops a e g = some true)
    (hx : lookO a e x = .slice sa n m) (hy : lookO a e y = .slice sb n' m') (hz : lookO a e z = .slice sc p q) (hu : lookO a e u = .slice sd p' q') (hS : S w)
    (h : RunE Tryz.prog ops Q S r a ((d, .agg #[.int .i64 2, .slice sa n m, .slice none 0 0, .slice sb n' m', .slice sc p q, .slice sd p' q', .int .i64 0, .int .i64 0]) :: e) w) : RunE Tryz.prog ops Q S ((i, false) :: r) a e w := by
  have hc : lookO a e (.const (.int .i64 2)) = .int .i64 2 := rfl
  refine run_eff ho hd hw (fun o h1 => ?_) hS h
  unfold execOp
  simp only [h1, List.map_toArray, List.map_cons, List.map_nil, hx, hy, hz, hu, hc]
  exact run_v build_fac
end
end Go.Proofs.YtddebgmjolojeaaGreatDoor

/- Lists put one behind the other, and codes of texts in a map: the program. -/
namespace Go.Proofs.YtddebgmjolojeaaGreatDoor
open Go.RowKit Go.Maps
set_option maxRecDepth 100000
set_option linter.unusedVariables false

theorem growStr : ∃ i0, Tryz.prog.info? 9 = some i0 ∧ i0.zero = some (.string ⟨#[]⟩) ∧ i0.size = 1 ∧ i0.bytes = 16 := info_parts infoStr
set_option maxHeartbeats 4000000 in
theorem implGrow0 (n : Nat) (w : World) (hn : n ≤ 1048576) :
    Calls Tryz.prog 63 #[.slice none 0 0, .int .i64 n] w fun e w' => ∃ v, e = .returned v ∧ w'.ownsRow w.heap.size 9 1 v 0 [] ∧ Below w.heap.size w w' := by
  by_cases h0 : n = 0
  · subst h0
    go_enter Tryz.func63, Tryz.ntmps63
    go_wp2
    go_ret
    exact ⟨_, rfl, ⟨rfl, .inl ⟨rfl, rfl⟩⟩, Below.refl _ _⟩
  · obtain ⟨i0, hi0, hz0, hz1, hz2⟩ := growStr
    have hrz : ∀ ty, (Builtin.append_ #[24, 3] ty #[.slice none 0 0, .int .i64 (n : Int)]).run Tryz.prog w = .ok (.slice (some ⟨w.heap.size, 0, none⟩) n (grownCap w n 0 9)) (w.drew.alloc (.cells (Builtin.zeroCells (Value.string ⟨#[]⟩).cells n ++ Builtin.zeroCells (Value.string ⟨#[]⟩).cells (grownCap w n 0 9 - n)) 9)) := fun ty =>
      Lib.run_append_nil_zeros w _ _ ty 9 i0 _ .i64 .i64 Tryz.underlying24 Tryz.underlying3 hi0 hz0 n (by omega) (by omega) (by omega) (by rw [hz2]; omega)
    have hG := grownCap_ge w n 0 9
    have hG2 := grownCap_le_maxLen w n 0 9 (by unfold maxLen; omega)
    obtain ⟨G, hGe⟩ : ∃ G, grownCap w n 0 9 = G := ⟨_, rfl⟩
    rw [hGe] at hG hG2 hrz
    obtain ⟨C, hC⟩ : ∃ C, Builtin.zeroCells (Value.string ⟨#[]⟩).cells n ++ Builtin.zeroCells (Value.string ⟨#[]⟩).cells (G - n) = C := ⟨_, rfl⟩
    have hCs : C.size = G := by rw [← hC]; simp [Builtin.zeroCells, Value.cells]; omega
    rw [hC] at hrz
    have hpos : (n : Int) > 0 := by omega
    have hG3 : G ≤ 9223372036854775807 := by unfold maxLen at hG2; omega
    clear hC hGe
    go_enter Tryz.func63, Tryz.ntmps63
    go_wp2_with (at_builtin; refine Lib.wpList_append_run _ rfl _ _ _ _ rfl _ _ rfl rfl _ _ (hrz _) ?_)
    all_goals
      go_ret
      exact ⟨_, rfl, ⟨rfl, .inr ⟨w.heap.size, G, C, rfl, Nat.le_refl _, blk_new _ _ rfl, Nat.zero_le _, by omega, by omega, rfl⟩⟩, below_then (below_drew' (Below.refl _ _)) (below1 w.drew _)⟩
/-- Lists of texts, each a slice in a row of slices. -/
def ListsAt (B : Nat) (w : World) (a : Option Addr) (L : List (List ByteArray)) : Prop := ∀ k, k < L.length → ∃ b off ad c, a = some ⟨b, off, none⟩ ∧ b < B ∧ w.cell? ⟨b, off + k, none⟩ = some (.slice ad (L.getD k []).length c) ∧ TextsAt 0 B w ad (L.getD k [])
theorem ListsAt.below {B : Nat} {w w' : World} {a : Option Addr} {L : List (List ByteArray)} (h : ListsAt B w a L) (hb : Below B w w') : ListsAt B w' a L := fun k hk => by
  obtain ⟨b, off, ad, c, e, hlt, hc, ht⟩ := h k hk
  exact ⟨b, off, ad, c, e, hlt, by rw [hb.cell hlt]; exact hc, ht.below hb (Nat.le_refl _)⟩
theorem flat_take {L : List (List ByteArray)} {k : Nat} (hk : k < L.length) : (L.take (k + 1)).flatten = (L.take k).flatten ++ L.getD k [] := by
  rw [List.take_add_one, List.flatten_append, List.getElem?_eq_getElem hk, List.getD_eq_getElem?_getD, List.getElem?_eq_getElem hk]
  simp
theorem flat_le {L : List (List ByteArray)} (k : Nat) : (L.take k).flatten.length ≤ L.flatten.length := by
  conv => rhs; rw [← List.take_append_drop k L]
  rw [List.flatten_append, List.length_append]; omega
/-- How long the first k lists are in all. -/
def flN (L : List (List ByteArray)) (k : Nat) : Nat := (L.take k).flatten.length
theorem flN_succ {L : List (List ByteArray)} {k : Nat} (hk : k < L.length) : flN L (k + 1) = flN L k + (L.getD k []).length := by unfold flN; rw [flat_take hk, List.length_append]
theorem flN_le (L : List (List ByteArray)) (k : Nat) : flN L k ≤ L.flatten.length := flat_le k
theorem flN_all (L : List (List ByteArray)) : flN L L.length = L.flatten.length := by unfold flN; rw [List.take_length]
set_option maxHeartbeats 4000000 in
theorem implConcat (L : List (List ByteArray)) (a : Option Addr) (c B : Nat) (w : World) (h : ListsAt B w a L) (hB : B ≤ w.heap.size) (hn : L.flatten.length ≤ 1048576) (hL : L.length ≤ 1048576) :
    Calls Tryz.prog 50 #[.slice a L.length c] w fun e w' => ∃ v, e = .returned v ∧ w'.ownsRow w.heap.size 9 1 v L.flatten.length (L.flatten.map Value.string) ∧ Below w.heap.size w w' := by
  have AT := Lib.hid (fun (k : Nat) (hk : k < L.length) (W : World) (hb : Below w.heap.size w W) => (h.below (hb.mono hB)) k hk)
  have FT := Lib.hid (fun (k : Nat) (hk : k < L.length) => flat_take hk)
  have FS := Lib.hid (fun (k : Nat) (hk : k < L.length) => flN_succ hk)
  have FL := Lib.hid (fun k => flN_le L k)
  have FA := Lib.hid (flN_all L)
  have EN : (L.take L.length).flatten = L.flatten := by rw [List.take_length]
  obtain ⟨T, hT⟩ : ∃ T, L.flatten = T := ⟨_, rfl⟩
  rw [hT] at EN hn FL FA ⊢
  clear hT
  have CG := Lib.hid (implGrow0 T.length w hn)
  obtain ⟨n, hn'⟩ : ∃ n, L.length = n := ⟨_, rfl⟩
  rw [hn'] at AT FT FS FA hL EN ⊢
  have EN := Lib.hid EN
  clear hn' h
  go_enter Tryz.func50, Tryz.ntmps50
  go_wp2
  go_loopw [3, 11] (fun z i wr => ∃ k : Nat, k ≤ n ∧ i = .int .i64 k ∧ z = .int .i64 (flN L k : Nat) ∧ w = wr) (fun _ i _ => n - (intOf i).toNat)
  case atStart => exact ⟨0, Nat.zero_le _, rfl, rfl, rfl⟩
  case round =>
    obtain ⟨k, hk, rfl, rfl, rfl⟩ := hrel
    by_cases hlt : k < n
    · obtain ⟨b, off, ad, c', rfl, hb, hc, _⟩ := AT.out k hlt _ (Below.refl _ _)
      have f1 := FL.out (k + 1)
      have NX := Lib.hid (FS.out k hlt)
      rw [FS.out k hlt] at f1
      obtain ⟨m, hm⟩ : ∃ m, flN L k = m := ⟨_, rfl⟩
      obtain ⟨q, hq⟩ : ∃ q, (L.getD k []).length = q := ⟨_, rfl⟩
      rw [hq] at hc
      rw [hm, hq] at NX f1
      rw [hm]
      clear hm hq
      have hm1 : m ≤ 1048576 := by omega
      have hq1 : q ≤ 1048576 := by omega
      have hs : ¬ ((m : Int) + (q : Int) < 0) := by omega
      go_wp2
      go_roundw
      case rel => exact ⟨k + 1, by omega, by go_num, by rw [NX.out]; go_num, by first | rfl | trivial⟩
      case measure => simp [intOf]; omega
    · obtain rfl : k = n := by omega
      rw [FA.out]
      go_wp2_with fail
      with_reducible refine CG.out.mono ?_
      rintro e w1 ⟨v, rfl, hO, hb⟩
      have ST := Lib.hid (show w1.ownsRow w.heap.size 9 1 v (L.take 0).flatten.length ((L.take 0).flatten.map Value.string) from hO)
      have B1 := Lib.hid hb
      clear hO hb CG
      go_wp2
      go_loopw [6, 27] (fun v i wr => ∃ (k' : Nat) (X : List ByteArray), k' ≤ k ∧ i = .int .i64 k' ∧ X = (L.take k').flatten ∧ wr.ownsRow w.heap.size 9 1 v X.length (X.map Value.string) ∧ Below w.heap.size w wr) (fun _ i _ => k - (intOf i).toNat)
      case atStart => exact ⟨0, [], Nat.zero_le _, rfl, rfl, ST.out, B1.out⟩
      case round =>
        obtain ⟨k', X, hk', rfl, hX, hO, hb⟩ := hrel
        have OW := Lib.hid hO
        have BW := Lib.hid hb
        clear hO hb ST
        by_cases hlt' : k' < k
        · obtain ⟨b, off, ad, c', rfl, hbB, hc, ht⟩ := AT.out k' hlt' _ BW.out
          have f1 := FL.out (k' + 1)
          rw [FS.out k' hlt', show flN L k' = X.length by rw [hX]; rfl] at f1
          have TX := Lib.hid ht
          have NX := Lib.hid (show (L.take (k' + 1)).flatten = X ++ L.getD k' [] by rw [FT.out k' hlt', hX])
          obtain ⟨T1, hT1⟩ : ∃ T1, L.getD k' [] = T1 := ⟨_, rfl⟩
          rw [hT1] at hc TX NX f1
          have hq1 : T1.length ≤ 1048576 := by omega
          clear hT1 ht hX
          have hmem : 0 < T1.length → ∃ b : Addr, ad = some b ∧ ∀ j u, (T1.map Value.string)[j]? = some u → wr.cell? (b.add j) = some u := fun hp => by
            obtain ⟨b, off, e⟩ := texts_some TX.out hp
            exact ⟨_, e, news_cells (e ▸ TX.out)⟩
          obtain ⟨i0, hi0, hz0, hz1, hz2⟩ := growStr
          have HM := Lib.hid hmem
          clear hmem
          go_wp2_with (at_builtin; go_loud (refine wpList_appN rfl _ _ 24 rfl _ i0 _ 1 16 Tryz.underlying24 hi0 hz0 hz1 hz2 rfl (by decide) _ _ _ rfl OW.out ad T1.length _ (T1.map Value.string) rfl (by simp) HM.out (fun u hu => by obtain ⟨s, _, rfl⟩ := List.mem_map.1 hu; rfl) (by unfold maxLen; omega) (by omega) BW.out.size ?_))
          intro v' w2 hO hg _
          have ON := Lib.hid (show w2.ownsRow w.heap.size 9 1 v' (X ++ T1).length ((X ++ T1).map Value.string) by rw [List.length_append, List.map_append]; exact hO)
          have BN := Lib.hid (BW.out.grown hg BW.out.size (fun r hr => (OW.out.lt r hr).1))
          clear hO hg
          go_wp2
          go_roundw
          case rel => exact ⟨k' + 1, X ++ T1, by omega, by go_num, NX.out.symm, ON.out, BN.out⟩
          case measure => simp [intOf]; omega
        · obtain rfl : k' = k := by omega
          have OE := Lib.hid (show wr.ownsRow w.heap.size 9 1 _ T.length (T.map Value.string) from (hX.trans EN.out) ▸ OW.out)
          clear hX
          go_wp2
          go_ret
          exact ⟨_, rfl, OE.out, BW.out⟩
theorem mapLaw : Keyed Tryz.prog 9 := string_keyed Tryz.underlying9
theorem mapZero (w : World) : (zeroValue 3).run Tryz.prog w = .ok (.int .i64 0) w := by kernel_rfl
theorem key_inj {s t : ByteArray} (h : Lit.string s.data.toList = Lit.string t.data.toList) : s = t := by
  obtain ⟨⟨s⟩⟩ := s
  obtain ⟨⟨t⟩⟩ := t
  simp only [Lit.string.injEq] at h
  rw [h]
/-- A map that has the places of texts in a list, counted from 1. -/
structure CodeM (D : DataW Unit) (l : List ByteArray) : Prop where
  tidy : Tidy D
  size : Maps.size D = l.length
  has_ : ∀ s : ByteArray, Maps.has D (.string s.data.toList) = decide (0 ≤ atF l s)
  at_ : ∀ s : ByteArray, D.atKey (.string s.data.toList) (.lit (.int .i64 0)) = .lit (.int .i64 (atF l s + 1))
theorem CodeM.start : CodeM (.map []) [] := ⟨tidy_empty, rfl, fun s => rfl, fun s => rfl⟩
theorem CodeM.snoc {D : DataW Unit} {l : List ByteArray} {s : ByteArray} (h : CodeM D l) (hs : atF l s < 0) {z : Int} (hz : z = (l.length : Int) + 1) : CodeM (D.put (.string s.data.toList) (.lit (.int .i64 z))) (l ++ [s]) := by
  subst hz
  have hk : WideAt.IsKeyLit (.string s.data.toList) := trivial
  refine ⟨h.tidy.put hk _, ?_, fun t => ?_, fun t => ?_⟩
  · rw [size_put h.tidy, h.has_ s, decide_eq_false (by omega), if_neg (by decide), h.size]; simp
  · by_cases e : t = s
    · subst e
      rw [has_put_same h.tidy.isMap hk, atF_new hs, decide_eq_true (by omega)]
    · rw [has_put_other (fun e' => e (key_inj e')), atF_old e, h.has_ t]
  · by_cases e : t = s
    · subst e
      rw [atKey_put_same h.tidy.isMap hk, atF_new hs]
    · rw [atKey_put_other (fun e' => e (key_inj e')), atF_old e, h.at_ t]
theorem CodeM.val {D : DataW Unit} {l : List ByteArray} {s : ByteArray} {c : Int} (h : CodeM D l) (hc : D.atKey (.string s.data.toList) (.lit (.int .i64 0)) = .lit (.int .i64 c)) : c = atF l s + 1 := by
  rw [h.at_ s] at hc
  simp only [DataW.lit.injEq, Lit.int.injEq, true_and] at hc
  exact hc.symm
theorem map_kept {w w' : World} {g n : Nat} {D : DataW Unit} (h : w.ownsMap Tryz.prog 9 (plainElem Tryz.prog 3) g n D) (hk : w'.heap[g]? = w.heap[g]?) : w'.ownsMap Tryz.prog 9 (plainElem Tryz.prog 3) g n D := by
  obtain ⟨es, clock, hb, r⟩ := h
  exact ⟨es, clock, hk.trans hb, r⟩
/-- The codes of a list's texts, in block g. -/
structure MapC (w : World) (g : Nat) (l : List ByteArray) : Prop where
  ex : ∃ (n : Nat) (D : DataW Unit), n ≤ 1048576 ∧ w.ownsMap Tryz.prog 9 (plainElem Tryz.prog 3) g n D ∧ CodeM D l
theorem MapC.same {w w' : World} {g : Nat} {l : List ByteArray} (h : MapC w g l) (hk : w'.heap[g]? = w.heap[g]?) : MapC w' g l := by
  obtain ⟨n, D, h1, h2, h3⟩ := h.ex
  exact ⟨n, D, h1, map_kept h2 hk, h3⟩
theorem MapC.lt {w : World} {g : Nat} {l : List ByteArray} (h : MapC w g l) : g < w.heap.size := by
  obtain ⟨n, D, h1, h2, h3⟩ := h.ex
  exact h2.lt
theorem MapC.keep {w w' : World} {g : Nat} {l : List ByteArray} (h : MapC w g l) (hb : Below w.heap.size w w') : MapC w' g l := h.same (hb.block g h.lt)
theorem MapC.look {w : World} {g : Nat} {l : List ByteArray} (h : MapC w g l) (s : ByteArray) (hs : s.size ≤ 1048576) : (Instr.lookup 51 (.map (some g)) (.string s) false).run Tryz.prog w = .ok (.int .i64 (atF l s + 1)) w := by
  obtain ⟨n, D, h1, h2, h3⟩ := h.ex
  obtain ⟨c, hrun, hat, _⟩ := h2.lookup_int mapLaw Tryz.underlying51 Tryz.underlying3 (mapZero w) (WideMaps.keyOf_string_mk Tryz.underlying9 (s := s) (by unfold maxLen; omega))
  rw [h3.val hat] at hrun
  exact hrun
set_option maxHeartbeats 8000000 in
theorem implCoding (L : List (List ByteArray)) (a : Option Addr) (c B : Nat) (w : World) (h : ListsAt B w a L) (hB : B ≤ w.heap.size) (hn : L.flatten.length ≤ 1048576) (hL : L.length ≤ 1048576) (hs : ∀ s ∈ L.flatten, s.size ≤ 1048576) :
    Calls Tryz.prog 26 #[.slice a L.length c] w fun e w' => ∃ g, e = .returned (.map (some g)) ∧ MapC w' g (dedL L.flatten) ∧ w.heap.size ≤ g ∧ Below w.heap.size w w' := by
  have CC := Lib.hid (fun (W : World) (hb : Below w.heap.size w W) => implConcat L a c B W (h.below (hb.mono hB)) (Nat.le_trans hB hb.size) hn hL)
  have hmm := @run_makeMap Tryz.prog
  obtain ⟨T, hT⟩ : ∃ T, L.flatten = T := ⟨_, rfl⟩
  rw [hT] at CC hn hs ⊢
  clear h hT
  have SZ := Lib.hid (fun (k : Nat) (hk : k < T.length) => hs (T.getD k ⟨#[]⟩) (by rw [List.getD_eq_getElem?_getD, List.getElem?_eq_getElem hk]; exact List.getElem_mem hk))
  have DS := Lib.hid (fun (k : Nat) (hk : k < T.length) => (by rw [List.take_add_one, List.getElem?_eq_getElem hk, List.getD_eq_getElem?_getD, List.getElem?_eq_getElem hk]; exact dedL_snoc _ _ : dedL (T.take (k + 1)) = snocD (dedL (T.take k)) (T.getD k ⟨#[]⟩)))
  have DN := Lib.hid (show dedL (T.take T.length) = dedL T by rw [List.take_length])
  have DL := Lib.hid (fun k => Nat.le_trans (dedL_len (T.take k)) (List.length_take_le k T))
  go_enter Tryz.func26, Tryz.ntmps26
  go_wp2_with fail
  obtain ⟨w1, hw1⟩ : ∃ W, w.alloc (.map #[] 0) = W := ⟨_, rfl⟩
  have M1 := Lib.hid (show w1.ownsMap Tryz.prog 9 (plainElem (H := Unit) Tryz.prog 3) w.heap.size 0 (.map []) from hw1 ▸ World.ownsMap_made w _ _ _)
  have B1 := Lib.hid (show Below w.heap.size w w1 from hw1 ▸ below1 w _)
  have S1 := Lib.hid (show w1.heap.size = w.heap.size + 1 from hw1 ▸ (by simp))
  rw [hw1]
  clear hw1
  with_reducible refine (CC.out _ B1.out).mono ?_
  rintro e w2 ⟨v, rfl, hO, b⟩
  obtain ⟨sa, sc, F, rfl, hTx, hnd, hrg, hcap⟩ := txs_of_row hO
  have TX := Lib.hid (hTx.at_ hrg)
  have M2 := Lib.hid (map_kept M1.out (b.block _ (by have := S1.out; omega)))
  have B2 := Lib.hid (below_then B1.out b)
  have S2 := Lib.hid b.size
  obtain ⟨n, hn'⟩ : ∃ n, T.length = n := ⟨_, rfl⟩
  have HN := Lib.hid hn'
  rw [hn'] at SZ DS DN hn ⊢
  clear hO b hTx hnd hrg hcap M1 CC hs hn'
  go_wp2
  obtain ⟨g, hg⟩ : ∃ g, w.heap.size = g := ⟨_, rfl⟩
  have HG := Lib.hid hg
  rw [hg] at M2
  have S1' : w1.heap.size = g + 1 := by have := S1.out; omega
  have S2' := S2.out
  rw [hg]
  go_loopw [10] (fun i wr => ∃ (k : Nat) (D : DataW Unit), k ≤ n ∧ i = .int .i64 k ∧ wr.ownsMap Tryz.prog 9 (plainElem Tryz.prog 3) g k D ∧ CodeM D (dedL (T.take k)) ∧ w2.grownBy wr (some g)) (fun i _ => n - (intOf i).toNat)
  case atStart => exact ⟨0, .map [], Nat.zero_le _, rfl, M2.out, CodeM.start, World.grownBy.refl _ _⟩
  case round =>
    obtain ⟨k, D, hk, rfl, hown, hcm, hgw⟩ := hrel
    by_cases hlt : k < n
    · obtain ⟨b, off, rfl, hb0, hb1, hc⟩ := TX.out k (T.getD k ⟨#[]⟩) (by have := HN.out; rw [List.getD_eq_getElem?_getD, List.getElem?_eq_getElem (by omega)]; rfl)
      have hcw : wr.cell? ⟨b, off + k, none⟩ = some (.string (T.getD k ⟨#[]⟩)) := by
        rw [← hc]; exact World.cell?_of_block (w := w2) (hgw.block b hb1 (by simp; omega))
      have hxs := SZ.out k hlt
      have DS := Lib.hid (DS.out k hlt)
      have DL := DL.out k
      have NX := Lib.hid (show k ≤ n from hk)
      obtain ⟨x, hx⟩ : ∃ x, T.getD k ⟨#[]⟩ = x := ⟨_, rfl⟩
      rw [hx] at hcw hxs DS
      clear hx hc
      have hkey : keyOf Tryz.prog 9 (.string x) = some (.string x.data.toList) := WideMaps.keyOf_string_mk Tryz.underlying9 (by unfold maxLen; omega)
      have hrun := (MapC.look ⟨k, D, by omega, hown, hcm⟩ x (by omega) : _)
      obtain ⟨l, hl⟩ : ∃ l, dedL (T.take k) = l := ⟨_, rfl⟩
      rw [hl] at hcm DS hrun DL
      have hsz := hcm.size
      obtain ⟨q, hq⟩ : ∃ q, Maps.size D = q := ⟨_, rfl⟩
      have HQ := Lib.hid hq
      have hqb : q ≤ 1048576 := by omega
      clear hl
      by_cases hc : atF l x < 0
      · have e0 : atF l x + 1 = 0 := by have := (atF_in l x).1; omega
        rw [e0] at hrun
        have CM := Lib.hid (DS.out ▸ (snocD_new hc).symm ▸ hcm.snoc hc (z := (q : Int) + 1) (by omega))
        have HO := Lib.hid hown
        have HG2 := Lib.hid hgw
        clear hc e0 hcm hown hgw hsz hq
        go_wp2_with (first
          | (at_len; refine wpList_len_own _ rfl _ 51 rfl 9 3 Tryz.underlying51 _ g k D rfl HO.out ?_; rw [HQ.out])
          | (at_mapUpdate; refine wpList_mapUpdate_own _ rfl _ _ _ 51 rfl 9 3 mapLaw Tryz.underlying51 _ g k _ rfl HO.out (by unfold maxLen; omega) _ _ _ rfl rfl hkey _ [] (plainElem_int Tryz.underlying3 (WalkArith.wf_i64 (by omega))) ?_; intro w3 hown1 hgrow1)
          | go_in)
        go_roundw
        case rel => exact ⟨k + 1, _, by omega, by go_num, hown1, CM.out, HG2.out.trans hgrow1⟩
        case measure => simp [intOf]; omega
      · have e0 : (atF l x + 1 == 0) = false := beq_eq_false_iff_ne.2 (by have := (atF_in l x).1; omega)
        have CM := Lib.hid (DS.out ▸ (snocD_old hc).symm ▸ hcm)
        have HO := Lib.hid (hown.mono (Nat.le_succ k))
        have HG2 := Lib.hid hgw
        obtain ⟨z, hz⟩ : ∃ z, atF l x + 1 = z := ⟨_, rfl⟩
        rw [hz] at hrun e0
        have e1 : ¬ z = 0 := beq_eq_false_iff_ne.1 e0
        clear hc hz hcm hown hgw hsz hq
        go_wp2
        go_roundw
        case rel => exact ⟨k + 1, _, by omega, by go_num, HO.out, CM.out, HG2.out⟩
        case measure => simp [intOf]; omega
    · obtain rfl : k = n := by omega
      have CM := Lib.hid (show CodeM D (dedL T) from DN.out ▸ hcm)
      have HO := Lib.hid hown
      have HB := Lib.hid (show Below w.heap.size w wr from B2.out.grown hgw B2.out.size (fun r hr => by cases hr; have := HG.out; omega))
      clear hcm hown hgw
      go_wp2
      go_ret
      exact ⟨g, rfl, ⟨⟨k, D, hn, HO.out, CM.out⟩⟩, by have := HG.out; omega, by have := HB.out; rwa [HG.out] at this⟩
end Go.Proofs.YtddebgmjolojeaaGreatDoor

/- The codes of a vector's elements: the program. -/
namespace Go.Proofs.YtddebgmjolojeaaGreatDoor
open Go.RowKit
set_option maxRecDepth 100000
set_option linter.unusedVariables false

/-- An index as a position; nothing for -1. -/
def posI (z : Int) : It := if z < 0 then noI else ⟨z + 1, 1, ⟨#[]⟩⟩
theorem posI_no {z : Int} (h : z < 0) : posI z = noI := by unfold posI; rw [if_pos h]
theorem posI_yes {z : Int} (h : ¬ z < 0) : posI z = ⟨z + 1, 1, ⟨#[]⟩⟩ := by unfold posI; rw [if_neg h]
theorem codI_pos {lv : List ByteArray} {x : It} (h : ItOk 3 x) (hf : ∀ s ∈ lv, s.size ≠ 0) : codI lv x = posI (atF lv x.t) := by
  by_cases hd : x.d = 0
  · obtain rfl := (cell_i h).1 hd
    rw [codI_no (.inl rfl), posI_no (by rw [show (noI.t) = ⟨#[]⟩ from rfl, atF_empty hf]; decide)]
  · by_cases hz : atF lv x.t < 0
    · rw [codI_no (.inr hz), posI_no hz]
    · rw [codI_yes (by omega), posI_yes hz]
theorem implPosItem (z : Int) (w : World) (h : -1 ≤ z) (h2 : z ≤ 1048576) :
    Calls Tryz.prog 52 #[.int .i64 z] w fun e w' => e = .returned (.agg #[.int .i64 (posI z).n, .int .i64 (posI z).d, .string (posI z).t]) ∧ Below w.heap.size w w' := by
  by_cases hz : z < 0
  · rw [posI_no hz]
    go_enter Tryz.func52, Tryz.ntmps52
    go_wp2
    first | exact item_ret0 rfl rfl rfl (blk_new _ _ rfl) ⟨rfl, below1 w _⟩ | exact item_ret rfl rfl rfl (blk_new _ _ rfl) ⟨rfl, below_three (below1 w _) (Nat.le_refl _) _ _ _⟩
  · rw [posI_yes hz]
    have EM := mkI_int (n := z + 1) (by omega) (by omega)
    obtain ⟨w1, hw1⟩ : ∃ W, w.alloc (.cells #[.int .i64 0, .int .i64 0, .string ⟨#[]⟩] 62) = W := ⟨_, rfl⟩
    have B1 := Lib.hid (show Below w.heap.size w w1 from hw1 ▸ below1 w _)
    have KZ := Lib.hid (show w1.heap[w.heap.size]? = some (.cells #[.int .i64 0, .int .i64 0, .string ⟨#[]⟩] 62 (0, 0)) from hw1 ▸ blk_new w _ rfl)
    have CT := Lib.hid (by have h := implMake (z + 1) 1 w1 ⟨by omega, by omega⟩ (by omega); rw [EM] at h; exact h : Calls Tryz.prog 66 #[.int .i64 (z + 1), .int .i64 1] w1 fun e w' => e = .returned (.agg #[.int .i64 (z + 1), .int .i64 1, .string ⟨#[]⟩]) ∧ Below w1.heap.size w1 w')
    have EW := Lib.hid hw1
    clear EM hw1
    go_enter Tryz.func52, Tryz.ntmps52
    go_wp2_with fail
    rw [EW.out]
    refine CT.out.mono ?_
    rintro e w2 ⟨rfl, b⟩
    have B2 := Lib.hid (below_then B1.out b)
    have KZ2 := Lib.hid (blk_below b KZ.out)
    clear b
    obtain ⟨⟨z0, z1, z2⟩, f0, f1, f2⟩ := three KZ2.out
    go_wp2
    exact item_ret rfl rfl rfl KZ2.out ⟨rfl, below_three B2.out (Nat.le_refl _) _ _ _⟩
set_option maxHeartbeats 8000000 in
theorem implEncode (d : Nat) (kk : Int) (items : List It) (parts : List Vec) (names cls levels : List ByteArray) (code env : Int) (val : Value) (lo hi : Nat) (w : World) (hv : VecAt lo hi w d (.mk kk items parts names cls levels code env) val) (hhi : hi ≤ w.heap.size) (ok : AtmOk kk items levels) (g : Nat) (lv : List ByteArray) (hm : MapC w g lv) (hf : ∀ s ∈ lv, s.size ≠ 0) (hl : lv.length ≤ 1048576) (tab : Lib.TabIs Tryz.prog w "internal/strconv.uint64pow10" .u64 Lib.pow10Tab) :
    Calls Tryz.prog 27 #[.map (some g), val] w fun e w' => ∃ v, e = .returned v ∧ ItR w w' (codL lv (txsL kk items levels)) v := by
  have CT := Lib.hid (fun (W : World) (hb : Below w.heap.size w W) => implPlainTexts d kk items parts names cls levels code env val lo hi W (hv.below hb hhi) (Nat.le_trans hhi hb.size) ok (tab_below tab hb))
  have OX := Lib.hid (fun (i : Nat) (hi : i < (txsL kk items levels).length) => txsL_ok ok hi)
  have LX : (txsL kk items levels).length ≤ 40 := by rw [txsL_len]; exact ok.len
  have HM := Lib.hid hm
  have HF := Lib.hid hf
  obtain ⟨X, hX⟩ : ∃ X, txsL kk items levels = X := ⟨_, rfl⟩
  rw [hX] at CT OX LX ⊢
  obtain ⟨d', ai, ci, ap, cp, an, cn, ac, cc, al, cl, ed, rfl, hI, hN, hC, hL, hP⟩ := vecAt_open hv
  have B0 := Lib.hid (below1 w (.cells #[.int .i64 kk, .slice ai items.length ci, .slice ap parts.length cp, .slice an names.length cn, .slice ac cls.length cc, .slice al levels.length cl, .int .i64 code, .int .i64 env] 32))
  clear hv hI hN hC hL hP ed hX ok tab hm hf
  go_enter Tryz.func27, Tryz.ntmps27
  go_wp2_with fail
  with_reducible refine (CT.out _ B0.out).mono ?_
  rintro e w0 ⟨⟨sx, cx, rfl, hX⟩, b⟩
  have B1 := Lib.hid (below_then B0.out b)
  have HX := Lib.hid (hX.wide (Nat.zero_le _) (Nat.le_refl _))
  have HM0 := Lib.hid (HM.out.same (B1.out.block g HM.out.lt))
  have ST := Lib.hid (show ItR w0 w0 (itF (fun i => codI lv (X.getD i noI)) 0) (.slice none 0 0) from ⟨⟨rfl, .inl ⟨rfl, rfl⟩⟩, Below.refl _ _⟩)
  have hgw := HM.out.lt
  obtain ⟨n, hn⟩ : ∃ n, X.length = n := ⟨_, rfl⟩
  have HN := Lib.hid hn
  have EL := Lib.hid (show codL lv X = itF (fun i => codI lv (X.getD i noI)) n from by rw [← hn]; rfl)
  rw [hn] at LX OX ⊢
  clear hn b hX CT HM
  go_wp2
  go_loopw [5, 11] (fun v i wr => ∃ k : Nat, k ≤ n ∧ i = .int .i64 k ∧ ItR w0 wr (itF (fun i => codI lv (X.getD i noI)) k) v) (fun _ i _ => n - (intOf i).toNat)
  case atStart => exact ⟨0, Nat.zero_le _, rfl, ST.out⟩
  case round =>
    obtain ⟨k, hk, rfl, hir⟩ := hrel
    have IR := Lib.hid hir
    clear hir
    by_cases hlt : k < n
    · obtain ⟨ba, off, rfl, hbB, c0, c1, c2'⟩ := (HX.out.below IR.out.below (Nat.le_refl _)).at_ (show k < X.length by have := HN.out; omega)
      have c2 : wr.cell? ⟨ba, off + k * 3 + 2, none⟩ = some (.string (X.getD k noI).t) := c2'
      have hbw : ba < wr.heap.size := Nat.lt_of_lt_of_le hbB IR.out.below.size
      have OZ := OX.out k hlt
      have EP := codI_pos (lv := lv) OZ HF.out
      have NX := Lib.hid (itF_succ (fun i => codI lv (X.getD i noI)) k)
      have hts := (itOk_size OZ).2
      obtain ⟨x, hx⟩ : ∃ x, X.getD k noI = x := ⟨_, rfl⟩
      rw [hx] at c0 c1 c2 EP NX hts
      rw [EP] at NX
      have zi := atF_in lv x.t
      have MC := Lib.hid ((HM0.out.same (IR.out.below.block g (Nat.lt_of_lt_of_le hgw B1.out.size))).same ((below1 wr (.cells #[.int .i64 x.n, .int .i64 x.d, .string x.t] 62)).block g (Nat.lt_of_lt_of_le (Nat.lt_of_lt_of_le hgw B1.out.size) IR.out.below.size)))
      have hrun := MC.out.look x.t (by omega)
      obtain ⟨z, hz⟩ : ∃ z, atF lv x.t = z := ⟨_, rfl⟩
      rw [hz] at hrun NX zi
      have CP := Lib.hid (fun W => implPosItem z W zi.1 (by omega))
      obtain ⟨y, hy⟩ : ∃ y, posI z = y := ⟨_, rfl⟩
      rw [hy] at CP NX
      have LN := Lib.hid (show (itF (fun i => codI lv (X.getD i noI)) k).length ≤ 1048576 by rw [itF_len]; omega)
      have z1 := zi.1
      have z2 : z ≤ 1048576 := by omega
      clear hx c2' OZ EP hz hy MC zi hts
      go_wp2_with fail
      refine (CP.out _).mono ?_
      rintro e w3 ⟨rfl, b⟩
      have IR := Lib.hid ((IR.out.keep (below1 wr (.cells #[.int .i64 x.n, .int .i64 x.d, .string x.t] 62))).keep b)
      clear b hrun c0 c1 c2
      go_wp2_with (at_builtin; go_loud (refine wpList_appIt rfl _ _ rfl y (itF (fun i => codI lv (X.getD i noI)) k) _ _ rfl rfl (IR.out.keep (below1 _ _)) (blk_new _ _ rfl) LN.out ?_))
      intro v' w4 hir
      have IN := Lib.hid (NX.out ▸ hir)
      clear hir
      go_wp2
      go_roundw
      case rel => exact ⟨k + 1, by omega, by go_num, IN.out⟩
      case measure => simp [intOf]; omega
    · obtain rfl : k = n := by omega
      have FN := Lib.hid (by have q := IR.out; rw [← EL.out] at q; exact (⟨row_lo q.row B1.out.size, below_then B1.out q.below⟩ : ItR w wr (codL lv X) _))
      go_wp2
      go_ret
      exact ⟨_, rfl, FN.out⟩
end Go.Proofs.YtddebgmjolojeaaGreatDoor

/- MakeFactorWith of the program. -/
namespace Go.Proofs.YtddebgmjolojeaaGreatDoor
open Go.RowKit
set_option maxRecDepth 100000
set_option linter.unusedVariables false

theorem lists_one {w W : World} {n nl lo hi : Nat} {la : Option Addr} {lc : Nat} {lv : List ByteArray} (hN : NewB n 24 #[.slice la nl lc] W) (hl : lv.length = nl) (hT : TextsAt lo hi W la lv) (hhi : hi ≤ W.heap.size) : ListsAt W.heap.size W (some ⟨n, 0, none⟩) [lv] := fun k hk => by
  obtain rfl : k = 0 := by simp at hk; omega
  exact ⟨n, 0, la, lc, rfl, (Array.getElem?_eq_some_iff.1 hN.out).1, cellOf hN.out (by subst hl; rfl), hT.wide (Nat.zero_le _) hhi⟩
theorem Own.row2 {d : Nat} {V : Vec} {y : Value} {lo hi g : Nat} {c : Array Value} {w : World} (h : Own d V y lo hi w) (hg : g < lo) : Own d V y lo hi (w.setRow g c) := h.row hg
set_option maxHeartbeats 16000000 in
theorem implMakeFactorWith (d : Nat) (v : Vec) (lv : List ByteArray) (val : Value) (la : Option Addr) (lc : Nat) (lo hi : Nat) (w : World) (hv : VecAt lo hi w d v val) (hT : TextsAt lo hi w la lv) (hhi : hi ≤ w.heap.size) (hsm : Small d v) (hcap : lv.length ≤ lc) (hlen : lv.length ≤ 1048576) (hss : ∀ s ∈ lv, s.size ≤ 1048576) (tab : Lib.TabIs Tryz.prog w "internal/strconv.uint64pow10" .u64 Lib.pow10Tab) :
    Calls Tryz.prog 10 #[val, .slice la lv.length lc] w (ResVS 1 (mfV v lv) (mfS v lv) w) := by
  obtain ⟨VV, hVV⟩ : ∃ V, v = V := ⟨_, rfl⟩
  rw [hVV]
  obtain ⟨kk, items, parts, names, cls, levels, code, env⟩ := v
  have hv0 := hv
  obtain ⟨d', ai, ci, ap, cp, an, cn, ac, cc, al, cl, ed, rfl, hI, hN, hC, hL, hP⟩ := vecAt_open hv
  have C1 := Lib.hid (fun (w1 : World) (hb : Below w.heap.size w w1) (g : Nat) (hg : w1.heap[g]? = some (.cells #[.int .i64 kk, .slice ai items.length ci, .slice ap parts.length cp, .slice an names.length cn, .slice ac cls.length cc, .slice al levels.length cl, .int .i64 code, .int .i64 env] 32 (0, 0))) => (hVV ▸ implAtm1 d kk items parts names cls levels code env ai ap an ac al ci cp cn cc cl g lo hi w1 (hv.below hb hhi) (Nat.le_trans hhi hb.size) hsm hg : Calls Tryz.prog 24 #[.slice (some ⟨g, 0, none⟩) 1 1] w1 (fun e w' => e = .returned (.string (atmS VV)) ∧ Below w1.heap.size w1 w')))
  have ln : names.length ≤ 1048576 := by subst ed; exact hsm.2.2.1
  have CN := Lib.hid (fun (w1 : World) (hb : Below w.heap.size w w1) => implCopyAny names an cn lo hi w1 (hN.below hb hhi) ln)
  have CL := Lib.hid (fun (w1 : World) (hb : Below w.heap.size w w1) => implCopyAny lv la lc lo hi w1 (hT.below hb hhi) hlen)
  have CB := Lib.hid (fun (w1 : World) (hb : Below w.heap.size w w1) => (by exact implLabels la lv.length lc 20 (txtS lv) hi w1 (hT.below hb hhi).strs hcap (by omega) (by decide) (fun i hi => by have := hss (lv.getD i ⟨#[]⟩) (by rw [List.getD_eq_getElem?_getD, List.getElem?_eq_getElem hi]; exact List.getElem_mem hi); have q : (txtS lv i).size ≤ 1048576 := this; omega) : Calls Tryz.prog 25 #[.slice la lv.length lc, .int .i64 20] w1 fun e w' => e = .returned (.bool (bB (LabelsOk (txtS lv) lv.length 20))) ∧ w1 = w'))
  have OK := Lib.hid (fun (h : atmS VV = ⟨#[]⟩) => (by have e := atmS_iff.1 h; rw [← hVV] at e; exact atm_ok e.1 e.2 : AtmOk kk items levels))
  have CE := Lib.hid (fun (ok : AtmOk kk items levels) (hf : ∀ s ∈ lv, s.size ≠ 0) (W : World) (g : Nat) (hm : MapC W g lv) (hb : Below w.heap.size w W) => implEncode d kk items parts names cls levels code env _ lo hi W (hv0.below hb hhi) (Nat.le_trans hhi hb.size) ok g lv hm hf hlen (tab_below tab hb))
  have CK := Lib.hid (fun (hd : dedL lv = lv) (W : World) (n : Nat) (hn : NewB n 24 #[.slice la lv.length lc] W) (hb : Below w.heap.size w W) => (by
    have q := implCoding [lv] (some ⟨n, 0, none⟩) 1 W.heap.size W (lists_one (w := w) hn rfl (hT.below hb hhi) (Nat.le_trans hhi hb.size)) (Nat.le_refl _) (by simpa using hlen) (by simp) (by simpa using hss)
    have e : [lv].flatten = lv := by simp
    rw [e, hd] at q
    exact q.mono (fun e w' ⟨g, h1, h2, _, h4⟩ => ⟨g, h1, h2, h4⟩) : Calls Tryz.prog 26 #[.slice (some ⟨n, 0, none⟩) 1 1] W (fun e w' => ∃ g, e = .returned (.map (some g)) ∧ MapC w' g lv ∧ Below W.heap.size W w')))
  have XA := Lib.hid (fun (h : ¬ atmS VV = ⟨#[]⟩) => mf_atm (lv := lv) h)
  have XN := Lib.hid (fun (h : atmS VV = ⟨#[]⟩) (h0 : lv.length = 0) => mf_none h h0)
  have XB := Lib.hid (fun (h : atmS VV = ⟨#[]⟩) (h0 : ¬ lv.length = 0) (h1 : ¬ LabelsOk (txtS lv) lv.length 20) => mf_bad h h0 h1)
  have XY := Lib.hid (fun (h : atmS VV = ⟨#[]⟩) (h0 : ¬ lv.length = 0) (h1 : LabelsOk (txtS lv) lv.length 20) => (by have e := h; rw [← hVV] at e ⊢; exact mf_yes e h0 h1 : mfV VV lv = facR lv (txsL kk items levels) names ∧ mfS VV lv = ⟨#[]⟩))
  have LF := Lib.hid (fun (h1 : LabelsOk (txtS lv) lv.length 20) => labels_full h1)
  have LD := Lib.hid (fun (h1 : LabelsOk (txtS lv) lv.length 20) => dedL_labels h1)
  obtain ⟨X, hX⟩ : ∃ X, txsL kk items levels = X := ⟨_, rfl⟩
  rw [hX] at CE XY
  obtain ⟨RV, hRV⟩ : ∃ y, mfV VV lv = y := ⟨_, rfl⟩
  obtain ⟨RS, hRS⟩ : ∃ y, mfS VV lv = y := ⟨_, rfl⟩
  rw [hRV, hRS] at XA XN XB XY ⊢
  obtain ⟨nl, hnl⟩ : ∃ nl, lv.length = nl := ⟨_, rfl⟩
  have HNL := Lib.hid hnl
  rw [hnl] at CL CB XN XB XY CK LF LD ⊢
  clear hv hv0 hI hN hC hL hP hsm ed hVV hX tab hT hcap hss hRV hRS hnl
  go_enter Tryz.func10, Tryz.ntmps10
  go_wp2_with fail
  obtain ⟨w1, hw1⟩ : ∃ W, ((w.alloc (.cells #[.int .i64 kk, .slice ai items.length ci, .slice ap parts.length cp, .slice an names.length cn, .slice ac cls.length cc, .slice al levels.length cl, .int .i64 code, .int .i64 env] 32)).alloc (.cells #[.int .i64 0, .slice none 0 0, .slice none 0 0, .slice none 0 0, .slice none 0 0, .slice none 0 0, .int .i64 0, .int .i64 0] 32)).alloc (.cells #[.int .i64 kk, .slice ai items.length ci, .slice ap parts.length cp, .slice an names.length cn, .slice ac cls.length cc, .slice al levels.length cl, .int .i64 code, .int .i64 env] 32) = W := ⟨_, rfl⟩
  have hsz : (w.alloc (.cells #[.int .i64 kk, .slice ai items.length ci, .slice ap parts.length cp, .slice an names.length cn, .slice ac cls.length cc, .slice al levels.length cl, .int .i64 code, .int .i64 env] 32)).heap.size = w.heap.size + 1 := by simp
  have hsz2 : ((w.alloc (.cells #[.int .i64 kk, .slice ai items.length ci, .slice ap parts.length cp, .slice an names.length cn, .slice ac cls.length cc, .slice al levels.length cl, .int .i64 code, .int .i64 env] 32)).alloc (.cells #[.int .i64 0, .slice none 0 0, .slice none 0 0, .slice none 0 0, .slice none 0 0, .slice none 0 0, .int .i64 0, .int .i64 0] 32)).heap.size = w.heap.size + 1 + 1 := by simp
  have B1 := Lib.hid (show Below w.heap.size w w1 from hw1 ▸ ((below1 w _).alloc (by simp) _).alloc (by simp; omega) _)
  have KA := Lib.hid (show w1.heap[w.heap.size]? = some (.cells #[.int .i64 kk, .slice ai items.length ci, .slice ap parts.length cp, .slice an names.length cn, .slice ac cls.length cc, .slice al levels.length cl, .int .i64 code, .int .i64 env] 32 (0, 0)) from hw1 ▸ blk_old (blk_old (blk_new w _ rfl)))
  have KR := Lib.hid (show w1.heap[w.heap.size + 1]? = some (.cells #[.int .i64 0, .slice none 0 0, .slice none 0 0, .slice none 0 0, .slice none 0 0, .slice none 0 0, .int .i64 0, .int .i64 0] 32 (0, 0)) from hw1 ▸ blk_old (hsz ▸ blk_new (w.alloc (.cells #[.int .i64 kk, .slice ai items.length ci, .slice ap parts.length cp, .slice an names.length cn, .slice ac cls.length cc, .slice al levels.length cl, .int .i64 code, .int .i64 env] 32)) (.cells #[.int .i64 0, .slice none 0 0, .slice none 0 0, .slice none 0 0, .slice none 0 0, .slice none 0 0, .int .i64 0, .int .i64 0] 32) rfl))
  have KL := Lib.hid (show w1.heap[w.heap.size + 1 + 1]? = some (.cells #[.int .i64 kk, .slice ai items.length ci, .slice ap parts.length cp, .slice an names.length cn, .slice ac cls.length cc, .slice al levels.length cl, .int .i64 code, .int .i64 env] 32 (0, 0)) from hw1 ▸ hsz2 ▸ blk_new ((w.alloc (.cells #[.int .i64 kk, .slice ai items.length ci, .slice ap parts.length cp, .slice an names.length cn, .slice ac cls.length cc, .slice al levels.length cl, .int .i64 code, .int .i64 env] 32)).alloc (.cells #[.int .i64 0, .slice none 0 0, .slice none 0 0, .slice none 0 0, .slice none 0 0, .slice none 0 0, .int .i64 0, .int .i64 0] 32)) (.cells #[.int .i64 kk, .slice ai items.length ci, .slice ap parts.length cp, .slice an names.length cn, .slice ac cls.length cc, .slice al levels.length cl, .int .i64 code, .int .i64 env] 32) rfl)
  rw [hw1]
  clear hw1 hsz hsz2
  refine (C1.out _ B1.out _ KL.out).mono ?_
  rintro e w2 ⟨rfl, b⟩
  have B2 := Lib.hid (below_then B1.out b)
  have KA := Lib.hid (blk_below b KA.out)
  have KR := Lib.hid (blk_below b KR.out)
  clear b KL
  by_cases hs : atmS VV = ⟨#[]⟩
  · have ok := Lib.hid (OK.out hs)
    rw [hs]
    by_cases h0 : nl = 0
    · have XV1 := Lib.hid (XN.out hs h0)
      clear hs XA XN XB XY CK LF LD
      subst h0
      obtain ⟨z0, z1, z2, z3, z4, z5, z6, z7⟩ := vec8 KR.out
      obtain ⟨f0, f1, f2, f3, f4, f5, f6, f7⟩ := free8 KR.out
      go_wp2
      rw [XV1.out.1, XV1.out.2]
      exact vec_endS rfl rfl rfl rfl KR.out (zeroS _ w _ (put8_below B2.out (Nat.le_succ _)))
    · have h0b : ((nl : Int) == 0) = false := beq_eq_false_iff_ne.2 (by omega)
      by_cases h1 : LabelsOk (txtS lv) nl 20
      · have XV1 := Lib.hid (XY.out hs h0 h1)
        have CK := Lib.hid (CK.out (LD.out h1))
        have CE := Lib.hid (CE.out ok.out (LF.out h1))
        clear hs XA XN XB XY LF LD OK C1
        go_wp2_with fail
        with_reducible refine (CB.out _ B2.out).mono ?_
        rintro e w3 ⟨rfl, rfl⟩
        rw [bB_yes h1]
        have KN := Lib.hid (⟨KR.out⟩ : NewB (w.heap.size + 1) 32 #[.int .i64 0, .slice none 0 0, .slice none 0 0, .slice none 0 0, .slice none 0 0, .slice none 0 0, .int .i64 0, .int .i64 0] w2)
        have H := Lib.hid (show HeldC w w2 ([(w.heap.size, 32, #[.int .i64 kk, .slice ai items.length ci, .slice ap parts.length cp, .slice an names.length cn, .slice ac cls.length cc, .slice al levels.length cl, .int .i64 code, .int .i64 env])]) from heldC_one B2.out KA.out)
        have BS := Lib.hid B2.out.size
        have hrl : w.heap.size + 1 < w2.heap.size := (Array.getElem?_eq_some_iff.1 KR.out).1
        clear KR KA h1 CB ok
        go_upto_region 8 with (fail)
        refine run_regionT (ops := (opsOf Tryz.f10 8)) (S := fun w' => HeldC w w' ([(w.heap.size, 32, #[.int .i64 kk, .slice ai items.length ci, .slice ap parts.length cp, .slice an names.length cn, .slice ac cls.length cc, .slice al levels.length cl, .int .i64 code, .int .i64 env])])) (.fork [(0, true), (3, true), (5, true), (6, true), (9, true)] 1 (.fork [] 2 (.fork [] 4 (.fork [] 7 (.fork [] 8 (.leaf [(10, false), (11, false), (12, false), (13, true)]) 10 (.leaf [(8, false), (11, false), (12, false), (13, true)])) 8 (.leaf [(7, false), (10, false), (11, false), (12, false), (13, true)])) 8 (.leaf [(4, false), (7, false), (10, false), (11, false), (12, false), (13, true)])) 8 (.leaf [(2, false), (4, false), (7, false), (10, false), (11, false), (12, false), (13, true)])) 8 (.leaf [(1, false), (2, false), (4, false), (7, false), (10, false), (11, false), (12, false), (13, true)])) (by kernel_rfl) (by kernel_rfl) (by kernel_rfl) (by kernel_rfl) (by kernel_rfl) (fun _ _ _ _ _ h => h) (heldC_drew H.out) ?_
        have H := Lib.hid (heldC_drew H.out)
        have KN := Lib.hid (KN.out.keep (below_drew' (Below.refl _ _)))
        refine run_mov (v := .slice la nl lc) (show opAt (opsOf Tryz.f10 8) 0 = some (some 25, .move (.tmp 1), none) from by kernel_rfl) (by kernel_rfl) (by kernel_rfl) (by kernel_rfl) ?_
        refine runC_vec (b := w.heap.size) (show opAt (opsOf Tryz.f10 8) 3 = some (some 28, .load 32 (.tmp 2), none) from by kernel_rfl) (by kernel_rfl) (by kernel_rfl) (by kernel_rfl) (List.Mem.head _) ?_
        refine runC_partV (b := w.heap.size) (by kernel_rfl) (show opAt (opsOf Tryz.f10 8) 5 = some (some 30, .fieldAddr 32 (.tmp 2) 3, none) from by kernel_rfl) (by kernel_rfl) (by kernel_rfl) (by kernel_rfl) ?_
        refine runC_cell (b := w.heap.size) (j := 3) (v := .slice an names.length cn) load_strs (show opAt (opsOf Tryz.f10 8) 6 = some (some 31, .load 24 (.tmp 30), none) from by kernel_rfl) (by kernel_rfl) (by kernel_rfl) (by kernel_rfl) (List.Mem.head _) rfl ?_
        refine run_mov (v := .slice la nl lc) (show opAt (opsOf Tryz.f10 8) 9 = some (some 34, .move (.tmp 1), none) from by kernel_rfl) (by kernel_rfl) (by kernel_rfl) (by kernel_rfl) ?_
        refine run_fork H.out (by kernel_rfl) (by kernel_rfl) ?_ ?_
        · refine run_bldS (u := .slice la nl lc) (show opAt (opsOf Tryz.f10 8) 1 = some (some 26, .buildSlice 72 1 #[(0, (.tmp 25))], none) from by kernel_rfl) (by kernel_rfl) (by kernel_rfl) (by kernel_rfl) (fun v => bld_sl la nl lc v) (fun W1 n1 hW hn => ?_)
          have hb := below_new hW
          have N1 := Lib.hid (newB_of hW hn)
          have S1 := Lib.hid (size_new hW hn)
          refine ⟨heldC_call H.out hb, ?_⟩
          have H := Lib.hid (heldC_call H.out hb)
          have KN := Lib.hid (KN.out.keep hb)
          clear hb hW hn
          refine run_fork H.out (by kernel_rfl) (by kernel_rfl) ?_ ?_
          · refine run_call (args := [.slice (some ⟨n1, 0, none⟩) 1 1]) (show opAt (opsOf Tryz.f10 8) 2 = some (some 27, .call { callee := .value (.func 26), args := [(.tmp 26)].toArray, argTypes := [72].toArray }, none) from by kernel_rfl) (by kernel_rfl) (by kernel_rfl) (by kernel_rfl) (by kernel_rfl) ?_
            refine (CK.out _ n1 N1.out H.out.1).mono ?_
            rintro en rw2 ⟨g1, rfl, hm, hb⟩
            refine ⟨_, rfl, heldC_call H.out hb, ?_⟩
            have H := Lib.hid (heldC_call H.out hb)
            have KN := Lib.hid (KN.out.keep hb)
            have N1 := Lib.hid (N1.out.keep hb)
            have MP := Lib.hid hm
            have S2 := Lib.hid hb.size
            clear hb hm
            refine run_fork H.out (by kernel_rfl) (by kernel_rfl) ?_ ?_
            · refine run_call (args := [.map (some g1), .agg #[.int .i64 kk, .slice ai items.length ci, .slice ap parts.length cp, .slice an names.length cn, .slice ac cls.length cc, .slice al levels.length cl, .int .i64 code, .int .i64 env]]) (show opAt (opsOf Tryz.f10 8) 4 = some (some 29, .call { callee := .value (.func 27), args := [(.tmp 27), (.tmp 28)].toArray, argTypes := [51, 32].toArray }, none) from by kernel_rfl) (by kernel_rfl) (by kernel_rfl) (by kernel_rfl) (by kernel_rfl) ?_
              refine (CE.out _ g1 MP.out H.out.1).mono ?_
              rintro en rw4 ⟨vi, rfl, hit⟩
              have hb := hit.below
              obtain ⟨si, ci', Fi, rfl, hi'⟩ := ItsC.of hit
              refine ⟨_, rfl, heldC_call H.out hb, ?_⟩
              have H := Lib.hid (heldC_call H.out hb)
              have KN := Lib.hid (KN.out.keep hb)
              have N1 := Lib.hid (N1.out.keep hb)
              have MP := Lib.hid (MP.out.keep hb)
              have IT := Lib.hid hi'
              have S4 := Lib.hid hb.size
              clear hb hit hi'
              refine run_fork H.out (by kernel_rfl) (by kernel_rfl) ?_ ?_
              · refine run_call (args := [.slice an names.length cn]) (show opAt (opsOf Tryz.f10 8) 7 = some (some 32, .call { callee := .value (.func 28), args := [(.tmp 31)].toArray, argTypes := [24].toArray }, none) from by kernel_rfl) (by kernel_rfl) (by kernel_rfl) (by kernel_rfl) (by kernel_rfl) ?_
                refine (CN.out _ H.out.1).mono ?_
                rintro en rw7 ⟨vn, rfl, hcp, hb⟩
                obtain ⟨sn, cn', Fn, rfl, ht⟩ := TxsC.of hcp
                refine ⟨_, rfl, heldC_call H.out hb, ?_⟩
                have H := Lib.hid (heldC_call H.out hb)
                have KN := Lib.hid (KN.out.keep hb)
                have N1 := Lib.hid (N1.out.keep hb)
                have MP := Lib.hid (MP.out.keep hb)
                have IT := Lib.hid (IT.out.keep hb)
                have TN := Lib.hid ht
                have S7 := Lib.hid hb.size
                clear hb hcp ht
                refine run_fork H.out (by kernel_rfl) (by kernel_rfl) ?_ ?_
                · refine run_bldS (u := .string facB) (show opAt (opsOf Tryz.f10 8) 8 = some (some 33, .buildSlice 24 1 #[(0, (.const (.string ⟨#[102, 97, 99, 116, 111, 114]⟩)))], none) from by kernel_rfl) (by kernel_rfl) (by kernel_rfl) (by kernel_rfl) (fun v => bld_tx facB v) (fun W8 n8 hW hn => ?_)
                  have hb := below_new hW
                  have N8 := Lib.hid (newB_of hW hn)
                  have S8 := Lib.hid (size_new hW hn)
                  refine ⟨heldC_call H.out hb, ?_⟩
                  have H := Lib.hid (heldC_call H.out hb)
                  have KN := Lib.hid (KN.out.keep hb)
                  have N1 := Lib.hid (N1.out.keep hb)
                  have MP := Lib.hid (MP.out.keep hb)
                  have IT := Lib.hid (IT.out.keep hb)
                  have TN := Lib.hid (TN.out.keep hb)
                  clear hb hW hn
                  refine run_call (args := [.slice la nl lc]) (show opAt (opsOf Tryz.f10 8) 10 = some (some 35, .call { callee := .value (.func 28), args := [(.tmp 34)].toArray, argTypes := [24].toArray }, none) from by kernel_rfl) (by kernel_rfl) (by kernel_rfl) (by kernel_rfl) (by kernel_rfl) ?_
                  refine (CL.out _ H.out.1).mono ?_
                  rintro en rw10 ⟨vl, rfl, hcp, hb⟩
                  obtain ⟨sl, cl', Fl, rfl, ht⟩ := TxsC.of hcp
                  refine ⟨_, rfl, heldC_call H.out hb, ?_⟩
                  have H := Lib.hid (heldC_call H.out hb)
                  have KN := Lib.hid (KN.out.keep hb)
                  have N1 := Lib.hid (N1.out.keep hb)
                  have MP := Lib.hid (MP.out.keep hb)
                  have IT := Lib.hid (IT.out.keep hb)
                  have TN := Lib.hid (TN.out.keep hb)
                  have N8 := Lib.hid (N8.out.keep hb)
                  have TL := Lib.hid ht
                  have S10 := Lib.hid hb.size
                  clear hb hcp ht
                  refine run_bldFac (sa := si) (n := (codL lv X).length) (m := ci') (sb := sn) (n' := names.length) (m' := cn') (sc := some ⟨n8, 0, none⟩) (p := 1) (q := 1) (sd := sl) (p' := lv.length) (q' := cl') (show opAt (opsOf Tryz.f10 8) 11 = some (some 36, .build 32 #[(0, (.const (.int .i64 2))), (1, (.tmp 29)), (3, (.tmp 32)), (4, (.tmp 33)), (5, (.tmp 35))], none) from by kernel_rfl) (by kernel_rfl) (by kernel_rfl) (by kernel_rfl) (by kernel_rfl) (by kernel_rfl) (by kernel_rfl) H.out ?_
                  refine run_store (w' := rw10.setRow (w.heap.size + 1) #[.int .i64 2, .slice si (codL lv X).length ci', .slice none 0 0, .slice sn names.length cn', .slice (some ⟨n8, 0, none⟩) 1 1, .slice sl lv.length cl', .int .i64 0, .int .i64 0]) (show opAt (opsOf Tryz.f10 8) 12 = some (none, .store 32 (.tmp 4) (.tmp 36), none) from by kernel_rfl) (by kernel_rfl) (by kernel_rfl) (by kernel_rfl) (store_vec8 KN.out.out (by simp [Value.oneCell'])) ⟨below_row H.out.1 (Nat.le_succ _) _, fun q hq => row_old (H.out.2 q hq) (by obtain rfl := List.mem_singleton.1 hq; simp only; omega)⟩ ?_
                  refine run_asg (v := .string ⟨#[]⟩) (show opAt (opsOf Tryz.f10 8) 13 = some (some 5, .assign (.const (.string ⟨#[]⟩)), none) from by kernel_rfl) (by kernel_rfl) (by kernel_rfl) (by kernel_rfl) ?_
                  refine run_done ?_
                  simp only [putAll, Act.put, List.setIfInBounds_toArray, List.set_cons_zero, List.set_cons_succ]
                  have OW := Lib.hid (fac_own (pa := none) (pc := 0) (lo := w2.drew.heap.size) IT.out TN.out N8.out TL.out (by have a1 := S1.out; have a2 := S2.out; have a4 := S4.out; have a7 := S7.out; have a8 := S8.out; have a10 := S10.out; have ab : w.heap.size ≤ w2.drew.heap.size := BS.out; omega) (by have a1 := S1.out; have a2 := S2.out; have a4 := S4.out; have a7 := S7.out; have a8 := S8.out; have a10 := S10.out; have ab : w.heap.size ≤ w2.drew.heap.size := BS.out; omega) (by have a1 := S1.out; have a2 := S2.out; have a4 := S4.out; have a7 := S7.out; have a8 := S8.out; have a10 := S10.out; have ab : w.heap.size ≤ w2.drew.heap.size := BS.out; omega) (by have a1 := S1.out; have a2 := S2.out; have a4 := S4.out; have a7 := S7.out; have a8 := S8.out; have a10 := S10.out; have ab : w.heap.size ≤ w2.drew.heap.size := BS.out; omega) (by have a1 := S1.out; have a2 := S2.out; have a4 := S4.out; have a7 := S7.out; have a8 := S8.out; have a10 := S10.out; have ab : w.heap.size ≤ w2.drew.heap.size := BS.out; omega) (by have a1 := S1.out; have a2 := S2.out; have a4 := S4.out; have a7 := S7.out; have a8 := S8.out; have a10 := S10.out; have ab : w.heap.size ≤ w2.drew.heap.size := BS.out; omega) (by have a1 := S1.out; have a2 := S2.out; have a4 := S4.out; have a7 := S7.out; have a8 := S8.out; have a10 := S10.out; have ab : w.heap.size ≤ w2.drew.heap.size := BS.out; omega))
                  have BH := Lib.hid H.out.1
                  have KRS := Lib.hid (row_set (c := #[.int .i64 2, .slice si (codL lv X).length ci', .slice none 0 0, .slice sn names.length cn', .slice (some ⟨n8, 0, none⟩) 1 1, .slice sl lv.length cl', .int .i64 0, .int .i64 0]) KN.out.out)
                  clear H KN MP N1 IT TN TL N8
                  go_wp2
                  rw [XV1.out.1, XV1.out.2]
                  exact vec_ret0S rfl rfl rfl rfl KRS.out ⟨_, rfl, (OW.out.row2 (show w.heap.size + 1 < w2.drew.heap.size from hrl)).wide (show w.heap.size ≤ w2.drew.heap.size from BS.out) (row_size _ _ _), below_row BH.out (Nat.le_succ _) _⟩
                · refine run_call (args := [.slice la nl lc]) (show opAt (opsOf Tryz.f10 8) 10 = some (some 35, .call { callee := .value (.func 28), args := [(.tmp 34)].toArray, argTypes := [24].toArray }, none) from by kernel_rfl) (by kernel_rfl) (by kernel_rfl) (by kernel_rfl) (by kernel_rfl) ?_
                  refine (CL.out _ H.out.1).mono ?_
                  rintro en rw10 ⟨vl, rfl, hcp, hb⟩
                  obtain ⟨sl, cl', Fl, rfl, ht⟩ := TxsC.of hcp
                  refine ⟨_, rfl, heldC_call H.out hb, ?_⟩
                  have H := Lib.hid (heldC_call H.out hb)
                  have KN := Lib.hid (KN.out.keep hb)
                  have N1 := Lib.hid (N1.out.keep hb)
                  have MP := Lib.hid (MP.out.keep hb)
                  have IT := Lib.hid (IT.out.keep hb)
                  have TN := Lib.hid (TN.out.keep hb)
                  have TL := Lib.hid ht
                  have S10 := Lib.hid hb.size
                  clear hb hcp ht
                  refine run_bldS (u := .string facB) (show opAt (opsOf Tryz.f10 8) 8 = some (some 33, .buildSlice 24 1 #[(0, (.const (.string ⟨#[102, 97, 99, 116, 111, 114]⟩)))], none) from by kernel_rfl) (by kernel_rfl) (by kernel_rfl) (by kernel_rfl) (fun v => bld_tx facB v) (fun W8 n8 hW hn => ?_)
                  have hb := below_new hW
                  have N8 := Lib.hid (newB_of hW hn)
                  have S8 := Lib.hid (size_new hW hn)
                  refine ⟨heldC_call H.out hb, ?_⟩
                  have H := Lib.hid (heldC_call H.out hb)
                  have KN := Lib.hid (KN.out.keep hb)
                  have N1 := Lib.hid (N1.out.keep hb)
                  have MP := Lib.hid (MP.out.keep hb)
                  have IT := Lib.hid (IT.out.keep hb)
                  have TN := Lib.hid (TN.out.keep hb)
                  have TL := Lib.hid (TL.out.keep hb)
                  clear hb hW hn
                  refine run_bldFac (sa := si) (n := (codL lv X).length) (m := ci') (sb := sn) (n' := names.length) (m' := cn') (sc := some ⟨n8, 0, none⟩) (p := 1) (q := 1) (sd := sl) (p' := lv.length) (q' := cl') (show opAt (opsOf Tryz.f10 8) 11 = some (some 36, .build 32 #[(0, (.const (.int .i64 2))), (1, (.tmp 29)), (3, (.tmp 32)), (4, (.tmp 33)), (5, (.tmp 35))], none) from by kernel_rfl) (by kernel_rfl) (by kernel_rfl) (by kernel_rfl) (by kernel_rfl) (by kernel_rfl) (by kernel_rfl) H.out ?_
                  refine run_store (w' := W8.setRow (w.heap.size + 1) #[.int .i64 2, .slice si (codL lv X).length ci', .slice none 0 0, .slice sn names.length cn', .slice (some ⟨n8, 0, none⟩) 1 1, .slice sl lv.length cl', .int .i64 0, .int .i64 0]) (show opAt (opsOf Tryz.f10 8) 12 = some (none, .store 32 (.tmp 4) (.tmp 36), none) from by kernel_rfl) (by kernel_rfl) (by kernel_rfl) (by kernel_rfl) (store_vec8 KN.out.out (by simp [Value.oneCell'])) ⟨below_row H.out.1 (Nat.le_succ _) _, fun q hq => row_old (H.out.2 q hq) (by obtain rfl := List.mem_singleton.1 hq; simp only; omega)⟩ ?_
                  refine run_asg (v := .string ⟨#[]⟩) (show opAt (opsOf Tryz.f10 8) 13 = some (some 5, .assign (.const (.string ⟨#[]⟩)), none) from by kernel_rfl) (by kernel_rfl) (by kernel_rfl) (by kernel_rfl) ?_
                  refine run_done ?_
                  simp only [putAll, Act.put, List.setIfInBounds_toArray, List.set_cons_zero, List.set_cons_succ]
                  have OW := Lib.hid (fac_own (pa := none) (pc := 0) (lo := w2.drew.heap.size) IT.out TN.out N8.out TL.out (by have a1 := S1.out; have a2 := S2.out; have a4 := S4.out; have a7 := S7.out; have a8 := S8.out; have a10 := S10.out; have ab : w.heap.size ≤ w2.drew.heap.size := BS.out; omega) (by have a1 := S1.out; have a2 := S2.out; have a4 := S4.out; have a7 := S7.out; have a8 := S8.out; have a10 := S10.out; have ab : w.heap.size ≤ w2.drew.heap.size := BS.out; omega) (by have a1 := S1.out; have a2 := S2.out; have a4 := S4.out; have a7 := S7.out; have a8 := S8.out; have a10 := S10.out; have ab : w.heap.size ≤ w2.drew.heap.size := BS.out; omega) (by have a1 := S1.out; have a2 := S2.out; have a4 := S4.out; have a7 := S7.out; have a8 := S8.out; have a10 := S10.out; have ab : w.heap.size ≤ w2.drew.heap.size := BS.out; omega) (by have a1 := S1.out; have a2 := S2.out; have a4 := S4.out; have a7 := S7.out; have a8 := S8.out; have a10 := S10.out; have ab : w.heap.size ≤ w2.drew.heap.size := BS.out; omega) (by have a1 := S1.out; have a2 := S2.out; have a4 := S4.out; have a7 := S7.out; have a8 := S8.out; have a10 := S10.out; have ab : w.heap.size ≤ w2.drew.heap.size := BS.out; omega) (by have a1 := S1.out; have a2 := S2.out; have a4 := S4.out; have a7 := S7.out; have a8 := S8.out; have a10 := S10.out; have ab : w.heap.size ≤ w2.drew.heap.size := BS.out; omega))
                  have BH := Lib.hid H.out.1
                  have KRS := Lib.hid (row_set (c := #[.int .i64 2, .slice si (codL lv X).length ci', .slice none 0 0, .slice sn names.length cn', .slice (some ⟨n8, 0, none⟩) 1 1, .slice sl lv.length cl', .int .i64 0, .int .i64 0]) KN.out.out)
                  clear H KN MP N1 IT TN TL N8
                  go_wp2
                  rw [XV1.out.1, XV1.out.2]
                  exact vec_ret0S rfl rfl rfl rfl KRS.out ⟨_, rfl, (OW.out.row2 (show w.heap.size + 1 < w2.drew.heap.size from hrl)).wide (show w.heap.size ≤ w2.drew.heap.size from BS.out) (row_size _ _ _), below_row BH.out (Nat.le_succ _) _⟩
              · refine run_bldS (u := .string facB) (show opAt (opsOf Tryz.f10 8) 8 = some (some 33, .buildSlice 24 1 #[(0, (.const (.string ⟨#[102, 97, 99, 116, 111, 114]⟩)))], none) from by kernel_rfl) (by kernel_rfl) (by kernel_rfl) (by kernel_rfl) (fun v => bld_tx facB v) (fun W8 n8 hW hn => ?_)
                have hb := below_new hW
                have N8 := Lib.hid (newB_of hW hn)
                have S8 := Lib.hid (size_new hW hn)
                refine ⟨heldC_call H.out hb, ?_⟩
                have H := Lib.hid (heldC_call H.out hb)
                have KN := Lib.hid (KN.out.keep hb)
                have N1 := Lib.hid (N1.out.keep hb)
                have MP := Lib.hid (MP.out.keep hb)
                have IT := Lib.hid (IT.out.keep hb)
                clear hb hW hn
                refine run_call (args := [.slice an names.length cn]) (show opAt (opsOf Tryz.f10 8) 7 = some (some 32, .call { callee := .value (.func 28), args := [(.tmp 31)].toArray, argTypes := [24].toArray }, none) from by kernel_rfl) (by kernel_rfl) (by kernel_rfl) (by kernel_rfl) (by kernel_rfl) ?_
                refine (CN.out _ H.out.1).mono ?_
                rintro en rw7 ⟨vn, rfl, hcp, hb⟩
                obtain ⟨sn, cn', Fn, rfl, ht⟩ := TxsC.of hcp
                refine ⟨_, rfl, heldC_call H.out hb, ?_⟩
                have H := Lib.hid (heldC_call H.out hb)
                have KN := Lib.hid (KN.out.keep hb)
                have N1 := Lib.hid (N1.out.keep hb)
                have MP := Lib.hid (MP.out.keep hb)
                have IT := Lib.hid (IT.out.keep hb)
                have N8 := Lib.hid (N8.out.keep hb)
                have TN := Lib.hid ht
                have S7 := Lib.hid hb.size
                clear hb hcp ht
                refine run_call (args := [.slice la nl lc]) (show opAt (opsOf Tryz.f10 8) 10 = some (some 35, .call { callee := .value (.func 28), args := [(.tmp 34)].toArray, argTypes := [24].toArray }, none) from by kernel_rfl) (by kernel_rfl) (by kernel_rfl) (by kernel_rfl) (by kernel_rfl) ?_
                refine (CL.out _ H.out.1).mono ?_
                rintro en rw10 ⟨vl, rfl, hcp, hb⟩
                obtain ⟨sl, cl', Fl, rfl, ht⟩ := TxsC.of hcp
                refine ⟨_, rfl, heldC_call H.out hb, ?_⟩
                have H := Lib.hid (heldC_call H.out hb)
                have KN := Lib.hid (KN.out.keep hb)
                have N1 := Lib.hid (N1.out.keep hb)
                have MP := Lib.hid (MP.out.keep hb)
                have IT := Lib.hid (IT.out.keep hb)
                have N8 := Lib.hid (N8.out.keep hb)
                have TN := Lib.hid (TN.out.keep hb)
                have TL := Lib.hid ht
                have S10 := Lib.hid hb.size
                clear hb hcp ht
                refine run_bldFac (sa := si) (n := (codL lv X).length) (m := ci') (sb := sn) (n' := names.length) (m' := cn') (sc := some ⟨n8, 0, none⟩) (p := 1) (q := 1) (sd := sl) (p' := lv.length) (q' := cl') (show opAt (opsOf Tryz.f10 8) 11 = some (some 36, .build 32 #[(0, (.const (.int .i64 2))), (1, (.tmp 29)), (3, (.tmp 32)), (4, (.tmp 33)), (5, (.tmp 35))], none) from by kernel_rfl) (by kernel_rfl) (by kernel_rfl) (by kernel_rfl) (by kernel_rfl) (by kernel_rfl) (by kernel_rfl) H.out ?_
                refine run_store (w' := rw10.setRow (w.heap.size + 1) #[.int .i64 2, .slice si (codL lv X).length ci', .slice none 0 0, .slice sn names.length cn', .slice (some ⟨n8, 0, none⟩) 1 1, .slice sl lv.length cl', .int .i64 0, .int .i64 0]) (show opAt (opsOf Tryz.f10 8) 12 = some (none, .store 32 (.tmp 4) (.tmp 36), none) from by kernel_rfl) (by kernel_rfl) (by kernel_rfl) (by kernel_rfl) (store_vec8 KN.out.out (by simp [Value.oneCell'])) ⟨below_row H.out.1 (Nat.le_succ _) _, fun q hq => row_old (H.out.2 q hq) (by obtain rfl := List.mem_singleton.1 hq; simp only; omega)⟩ ?_
                refine run_asg (v := .string ⟨#[]⟩) (show opAt (opsOf Tryz.f10 8) 13 = some (some 5, .assign (.const (.string ⟨#[]⟩)), none) from by kernel_rfl) (by kernel_rfl) (by kernel_rfl) (by kernel_rfl) ?_
                refine run_done ?_
                simp only [putAll, Act.put, List.setIfInBounds_toArray, List.set_cons_zero, List.set_cons_succ]
                have OW := Lib.hid (fac_own (pa := none) (pc := 0) (lo := w2.drew.heap.size) IT.out TN.out N8.out TL.out (by have a1 := S1.out; have a2 := S2.out; have a4 := S4.out; have a7 := S7.out; have a8 := S8.out; have a10 := S10.out; have ab : w.heap.size ≤ w2.drew.heap.size := BS.out; omega) (by have a1 := S1.out; have a2 := S2.out; have a4 := S4.out; have a7 := S7.out; have a8 := S8.out; have a10 := S10.out; have ab : w.heap.size ≤ w2.drew.heap.size := BS.out; omega) (by have a1 := S1.out; have a2 := S2.out; have a4 := S4.out; have a7 := S7.out; have a8 := S8.out; have a10 := S10.out; have ab : w.heap.size ≤ w2.drew.heap.size := BS.out; omega) (by have a1 := S1.out; have a2 := S2.out; have a4 := S4.out; have a7 := S7.out; have a8 := S8.out; have a10 := S10.out; have ab : w.heap.size ≤ w2.drew.heap.size := BS.out; omega) (by have a1 := S1.out; have a2 := S2.out; have a4 := S4.out; have a7 := S7.out; have a8 := S8.out; have a10 := S10.out; have ab : w.heap.size ≤ w2.drew.heap.size := BS.out; omega) (by have a1 := S1.out; have a2 := S2.out; have a4 := S4.out; have a7 := S7.out; have a8 := S8.out; have a10 := S10.out; have ab : w.heap.size ≤ w2.drew.heap.size := BS.out; omega) (by have a1 := S1.out; have a2 := S2.out; have a4 := S4.out; have a7 := S7.out; have a8 := S8.out; have a10 := S10.out; have ab : w.heap.size ≤ w2.drew.heap.size := BS.out; omega))
                have BH := Lib.hid H.out.1
                have KRS := Lib.hid (row_set (c := #[.int .i64 2, .slice si (codL lv X).length ci', .slice none 0 0, .slice sn names.length cn', .slice (some ⟨n8, 0, none⟩) 1 1, .slice sl lv.length cl', .int .i64 0, .int .i64 0]) KN.out.out)
                clear H KN MP N1 IT TN TL N8
                go_wp2
                rw [XV1.out.1, XV1.out.2]
                exact vec_ret0S rfl rfl rfl rfl KRS.out ⟨_, rfl, (OW.out.row2 (show w.heap.size + 1 < w2.drew.heap.size from hrl)).wide (show w.heap.size ≤ w2.drew.heap.size from BS.out) (row_size _ _ _), below_row BH.out (Nat.le_succ _) _⟩
            · refine run_bldS (u := .string facB) (show opAt (opsOf Tryz.f10 8) 8 = some (some 33, .buildSlice 24 1 #[(0, (.const (.string ⟨#[102, 97, 99, 116, 111, 114]⟩)))], none) from by kernel_rfl) (by kernel_rfl) (by kernel_rfl) (by kernel_rfl) (fun v => bld_tx facB v) (fun W8 n8 hW hn => ?_)
              have hb := below_new hW
              have N8 := Lib.hid (newB_of hW hn)
              have S8 := Lib.hid (size_new hW hn)
              refine ⟨heldC_call H.out hb, ?_⟩
              have H := Lib.hid (heldC_call H.out hb)
              have KN := Lib.hid (KN.out.keep hb)
              have N1 := Lib.hid (N1.out.keep hb)
              have MP := Lib.hid (MP.out.keep hb)
              clear hb hW hn
              refine run_call (args := [.map (some g1), .agg #[.int .i64 kk, .slice ai items.length ci, .slice ap parts.length cp, .slice an names.length cn, .slice ac cls.length cc, .slice al levels.length cl, .int .i64 code, .int .i64 env]]) (show opAt (opsOf Tryz.f10 8) 4 = some (some 29, .call { callee := .value (.func 27), args := [(.tmp 27), (.tmp 28)].toArray, argTypes := [51, 32].toArray }, none) from by kernel_rfl) (by kernel_rfl) (by kernel_rfl) (by kernel_rfl) (by kernel_rfl) ?_
              refine (CE.out _ g1 MP.out H.out.1).mono ?_
              rintro en rw4 ⟨vi, rfl, hit⟩
              have hb := hit.below
              obtain ⟨si, ci', Fi, rfl, hi'⟩ := ItsC.of hit
              refine ⟨_, rfl, heldC_call H.out hb, ?_⟩
              have H := Lib.hid (heldC_call H.out hb)
              have KN := Lib.hid (KN.out.keep hb)
              have N1 := Lib.hid (N1.out.keep hb)
              have MP := Lib.hid (MP.out.keep hb)
              have N8 := Lib.hid (N8.out.keep hb)
              have IT := Lib.hid hi'
              have S4 := Lib.hid hb.size
              clear hb hit hi'
              refine run_call (args := [.slice an names.length cn]) (show opAt (opsOf Tryz.f10 8) 7 = some (some 32, .call { callee := .value (.func 28), args := [(.tmp 31)].toArray, argTypes := [24].toArray }, none) from by kernel_rfl) (by kernel_rfl) (by kernel_rfl) (by kernel_rfl) (by kernel_rfl) ?_
              refine (CN.out _ H.out.1).mono ?_
              rintro en rw7 ⟨vn, rfl, hcp, hb⟩
              obtain ⟨sn, cn', Fn, rfl, ht⟩ := TxsC.of hcp
              refine ⟨_, rfl, heldC_call H.out hb, ?_⟩
              have H := Lib.hid (heldC_call H.out hb)
              have KN := Lib.hid (KN.out.keep hb)
              have N1 := Lib.hid (N1.out.keep hb)
              have MP := Lib.hid (MP.out.keep hb)
              have N8 := Lib.hid (N8.out.keep hb)
              have IT := Lib.hid (IT.out.keep hb)
              have TN := Lib.hid ht
              have S7 := Lib.hid hb.size
              clear hb hcp ht
              refine run_call (args := [.slice la nl lc]) (show opAt (opsOf Tryz.f10 8) 10 = some (some 35, .call { callee := .value (.func 28), args := [(.tmp 34)].toArray, argTypes := [24].toArray }, none) from by kernel_rfl) (by kernel_rfl) (by kernel_rfl) (by kernel_rfl) (by kernel_rfl) ?_
              refine (CL.out _ H.out.1).mono ?_
              rintro en rw10 ⟨vl, rfl, hcp, hb⟩
              obtain ⟨sl, cl', Fl, rfl, ht⟩ := TxsC.of hcp
              refine ⟨_, rfl, heldC_call H.out hb, ?_⟩
              have H := Lib.hid (heldC_call H.out hb)
              have KN := Lib.hid (KN.out.keep hb)
              have N1 := Lib.hid (N1.out.keep hb)
              have MP := Lib.hid (MP.out.keep hb)
              have N8 := Lib.hid (N8.out.keep hb)
              have IT := Lib.hid (IT.out.keep hb)
              have TN := Lib.hid (TN.out.keep hb)
              have TL := Lib.hid ht
              have S10 := Lib.hid hb.size
              clear hb hcp ht
              refine run_bldFac (sa := si) (n := (codL lv X).length) (m := ci') (sb := sn) (n' := names.length) (m' := cn') (sc := some ⟨n8, 0, none⟩) (p := 1) (q := 1) (sd := sl) (p' := lv.length) (q' := cl') (show opAt (opsOf Tryz.f10 8) 11 = some (some 36, .build 32 #[(0, (.const (.int .i64 2))), (1, (.tmp 29)), (3, (.tmp 32)), (4, (.tmp 33)), (5, (.tmp 35))], none) from by kernel_rfl) (by kernel_rfl) (by kernel_rfl) (by kernel_rfl) (by kernel_rfl) (by kernel_rfl) (by kernel_rfl) H.out ?_
              refine run_store (w' := rw10.setRow (w.heap.size + 1) #[.int .i64 2, .slice si (codL lv X).length ci', .slice none 0 0, .slice sn names.length cn', .slice (some ⟨n8, 0, none⟩) 1 1, .slice sl lv.length cl', .int .i64 0, .int .i64 0]) (show opAt (opsOf Tryz.f10 8) 12 = some (none, .store 32 (.tmp 4) (.tmp 36), none) from by kernel_rfl) (by kernel_rfl) (by kernel_rfl) (by kernel_rfl) (store_vec8 KN.out.out (by simp [Value.oneCell'])) ⟨below_row H.out.1 (Nat.le_succ _) _, fun q hq => row_old (H.out.2 q hq) (by obtain rfl := List.mem_singleton.1 hq; simp only; omega)⟩ ?_
              refine run_asg (v := .string ⟨#[]⟩) (show opAt (opsOf Tryz.f10 8) 13 = some (some 5, .assign (.const (.string ⟨#[]⟩)), none) from by kernel_rfl) (by kernel_rfl) (by kernel_rfl) (by kernel_rfl) ?_
              refine run_done ?_
              simp only [putAll, Act.put, List.setIfInBounds_toArray, List.set_cons_zero, List.set_cons_succ]
              have OW := Lib.hid (fac_own (pa := none) (pc := 0) (lo := w2.drew.heap.size) IT.out TN.out N8.out TL.out (by have a1 := S1.out; have a2 := S2.out; have a4 := S4.out; have a7 := S7.out; have a8 := S8.out; have a10 := S10.out; have ab : w.heap.size ≤ w2.drew.heap.size := BS.out; omega) (by have a1 := S1.out; have a2 := S2.out; have a4 := S4.out; have a7 := S7.out; have a8 := S8.out; have a10 := S10.out; have ab : w.heap.size ≤ w2.drew.heap.size := BS.out; omega) (by have a1 := S1.out; have a2 := S2.out; have a4 := S4.out; have a7 := S7.out; have a8 := S8.out; have a10 := S10.out; have ab : w.heap.size ≤ w2.drew.heap.size := BS.out; omega) (by have a1 := S1.out; have a2 := S2.out; have a4 := S4.out; have a7 := S7.out; have a8 := S8.out; have a10 := S10.out; have ab : w.heap.size ≤ w2.drew.heap.size := BS.out; omega) (by have a1 := S1.out; have a2 := S2.out; have a4 := S4.out; have a7 := S7.out; have a8 := S8.out; have a10 := S10.out; have ab : w.heap.size ≤ w2.drew.heap.size := BS.out; omega) (by have a1 := S1.out; have a2 := S2.out; have a4 := S4.out; have a7 := S7.out; have a8 := S8.out; have a10 := S10.out; have ab : w.heap.size ≤ w2.drew.heap.size := BS.out; omega) (by have a1 := S1.out; have a2 := S2.out; have a4 := S4.out; have a7 := S7.out; have a8 := S8.out; have a10 := S10.out; have ab : w.heap.size ≤ w2.drew.heap.size := BS.out; omega))
              have BH := Lib.hid H.out.1
              have KRS := Lib.hid (row_set (c := #[.int .i64 2, .slice si (codL lv X).length ci', .slice none 0 0, .slice sn names.length cn', .slice (some ⟨n8, 0, none⟩) 1 1, .slice sl lv.length cl', .int .i64 0, .int .i64 0]) KN.out.out)
              clear H KN MP N1 IT TN TL N8
              go_wp2
              rw [XV1.out.1, XV1.out.2]
              exact vec_ret0S rfl rfl rfl rfl KRS.out ⟨_, rfl, (OW.out.row2 (show w.heap.size + 1 < w2.drew.heap.size from hrl)).wide (show w.heap.size ≤ w2.drew.heap.size from BS.out) (row_size _ _ _), below_row BH.out (Nat.le_succ _) _⟩
          · refine run_bldS (u := .string facB) (show opAt (opsOf Tryz.f10 8) 8 = some (some 33, .buildSlice 24 1 #[(0, (.const (.string ⟨#[102, 97, 99, 116, 111, 114]⟩)))], none) from by kernel_rfl) (by kernel_rfl) (by kernel_rfl) (by kernel_rfl) (fun v => bld_tx facB v) (fun W8 n8 hW hn => ?_)
            have hb := below_new hW
            have N8 := Lib.hid (newB_of hW hn)
            have S8 := Lib.hid (size_new hW hn)
            refine ⟨heldC_call H.out hb, ?_⟩
            have H := Lib.hid (heldC_call H.out hb)
            have KN := Lib.hid (KN.out.keep hb)
            have N1 := Lib.hid (N1.out.keep hb)
            clear hb hW hn
            refine run_call (args := [.slice (some ⟨n1, 0, none⟩) 1 1]) (show opAt (opsOf Tryz.f10 8) 2 = some (some 27, .call { callee := .value (.func 26), args := [(.tmp 26)].toArray, argTypes := [72].toArray }, none) from by kernel_rfl) (by kernel_rfl) (by kernel_rfl) (by kernel_rfl) (by kernel_rfl) ?_
            refine (CK.out _ n1 N1.out H.out.1).mono ?_
            rintro en rw2 ⟨g1, rfl, hm, hb⟩
            refine ⟨_, rfl, heldC_call H.out hb, ?_⟩
            have H := Lib.hid (heldC_call H.out hb)
            have KN := Lib.hid (KN.out.keep hb)
            have N1 := Lib.hid (N1.out.keep hb)
            have N8 := Lib.hid (N8.out.keep hb)
            have MP := Lib.hid hm
            have S2 := Lib.hid hb.size
            clear hb hm
            refine run_call (args := [.map (some g1), .agg #[.int .i64 kk, .slice ai items.length ci, .slice ap parts.length cp, .slice an names.length cn, .slice ac cls.length cc, .slice al levels.length cl, .int .i64 code, .int .i64 env]]) (show opAt (opsOf Tryz.f10 8) 4 = some (some 29, .call { callee := .value (.func 27), args := [(.tmp 27), (.tmp 28)].toArray, argTypes := [51, 32].toArray }, none) from by kernel_rfl) (by kernel_rfl) (by kernel_rfl) (by kernel_rfl) (by kernel_rfl) ?_
            refine (CE.out _ g1 MP.out H.out.1).mono ?_
            rintro en rw4 ⟨vi, rfl, hit⟩
            have hb := hit.below
            obtain ⟨si, ci', Fi, rfl, hi'⟩ := ItsC.of hit
            refine ⟨_, rfl, heldC_call H.out hb, ?_⟩
            have H := Lib.hid (heldC_call H.out hb)
            have KN := Lib.hid (KN.out.keep hb)
            have N1 := Lib.hid (N1.out.keep hb)
            have N8 := Lib.hid (N8.out.keep hb)
            have MP := Lib.hid (MP.out.keep hb)
            have IT := Lib.hid hi'
            have S4 := Lib.hid hb.size
            clear hb hit hi'
            refine run_call (args := [.slice an names.length cn]) (show opAt (opsOf Tryz.f10 8) 7 = some (some 32, .call { callee := .value (.func 28), args := [(.tmp 31)].toArray, argTypes := [24].toArray }, none) from by kernel_rfl) (by kernel_rfl) (by kernel_rfl) (by kernel_rfl) (by kernel_rfl) ?_
            refine (CN.out _ H.out.1).mono ?_
            rintro en rw7 ⟨vn, rfl, hcp, hb⟩
            obtain ⟨sn, cn', Fn, rfl, ht⟩ := TxsC.of hcp
            refine ⟨_, rfl, heldC_call H.out hb, ?_⟩
            have H := Lib.hid (heldC_call H.out hb)
            have KN := Lib.hid (KN.out.keep hb)
            have N1 := Lib.hid (N1.out.keep hb)
            have N8 := Lib.hid (N8.out.keep hb)
            have MP := Lib.hid (MP.out.keep hb)
            have IT := Lib.hid (IT.out.keep hb)
            have TN := Lib.hid ht
            have S7 := Lib.hid hb.size
            clear hb hcp ht
            refine run_call (args := [.slice la nl lc]) (show opAt (opsOf Tryz.f10 8) 10 = some (some 35, .call { callee := .value (.func 28), args := [(.tmp 34)].toArray, argTypes := [24].toArray }, none) from by kernel_rfl) (by kernel_rfl) (by kernel_rfl) (by kernel_rfl) (by kernel_rfl) ?_
            refine (CL.out _ H.out.1).mono ?_
            rintro en rw10 ⟨vl, rfl, hcp, hb⟩
            obtain ⟨sl, cl', Fl, rfl, ht⟩ := TxsC.of hcp
            refine ⟨_, rfl, heldC_call H.out hb, ?_⟩
            have H := Lib.hid (heldC_call H.out hb)
            have KN := Lib.hid (KN.out.keep hb)
            have N1 := Lib.hid (N1.out.keep hb)
            have N8 := Lib.hid (N8.out.keep hb)
            have MP := Lib.hid (MP.out.keep hb)
            have IT := Lib.hid (IT.out.keep hb)
            have TN := Lib.hid (TN.out.keep hb)
            have TL := Lib.hid ht
            have S10 := Lib.hid hb.size
            clear hb hcp ht
            refine run_bldFac (sa := si) (n := (codL lv X).length) (m := ci') (sb := sn) (n' := names.length) (m' := cn') (sc := some ⟨n8, 0, none⟩) (p := 1) (q := 1) (sd := sl) (p' := lv.length) (q' := cl') (show opAt (opsOf Tryz.f10 8) 11 = some (some 36, .build 32 #[(0, (.const (.int .i64 2))), (1, (.tmp 29)), (3, (.tmp 32)), (4, (.tmp 33)), (5, (.tmp 35))], none) from by kernel_rfl) (by kernel_rfl) (by kernel_rfl) (by kernel_rfl) (by kernel_rfl) (by kernel_rfl) (by kernel_rfl) H.out ?_
            refine run_store (w' := rw10.setRow (w.heap.size + 1) #[.int .i64 2, .slice si (codL lv X).length ci', .slice none 0 0, .slice sn names.length cn', .slice (some ⟨n8, 0, none⟩) 1 1, .slice sl lv.length cl', .int .i64 0, .int .i64 0]) (show opAt (opsOf Tryz.f10 8) 12 = some (none, .store 32 (.tmp 4) (.tmp 36), none) from by kernel_rfl) (by kernel_rfl) (by kernel_rfl) (by kernel_rfl) (store_vec8 KN.out.out (by simp [Value.oneCell'])) ⟨below_row H.out.1 (Nat.le_succ _) _, fun q hq => row_old (H.out.2 q hq) (by obtain rfl := List.mem_singleton.1 hq; simp only; omega)⟩ ?_
            refine run_asg (v := .string ⟨#[]⟩) (show opAt (opsOf Tryz.f10 8) 13 = some (some 5, .assign (.const (.string ⟨#[]⟩)), none) from by kernel_rfl) (by kernel_rfl) (by kernel_rfl) (by kernel_rfl) ?_
            refine run_done ?_
            simp only [putAll, Act.put, List.setIfInBounds_toArray, List.set_cons_zero, List.set_cons_succ]
            have OW := Lib.hid (fac_own (pa := none) (pc := 0) (lo := w2.drew.heap.size) IT.out TN.out N8.out TL.out (by have a1 := S1.out; have a2 := S2.out; have a4 := S4.out; have a7 := S7.out; have a8 := S8.out; have a10 := S10.out; have ab : w.heap.size ≤ w2.drew.heap.size := BS.out; omega) (by have a1 := S1.out; have a2 := S2.out; have a4 := S4.out; have a7 := S7.out; have a8 := S8.out; have a10 := S10.out; have ab : w.heap.size ≤ w2.drew.heap.size := BS.out; omega) (by have a1 := S1.out; have a2 := S2.out; have a4 := S4.out; have a7 := S7.out; have a8 := S8.out; have a10 := S10.out; have ab : w.heap.size ≤ w2.drew.heap.size := BS.out; omega) (by have a1 := S1.out; have a2 := S2.out; have a4 := S4.out; have a7 := S7.out; have a8 := S8.out; have a10 := S10.out; have ab : w.heap.size ≤ w2.drew.heap.size := BS.out; omega) (by have a1 := S1.out; have a2 := S2.out; have a4 := S4.out; have a7 := S7.out; have a8 := S8.out; have a10 := S10.out; have ab : w.heap.size ≤ w2.drew.heap.size := BS.out; omega) (by have a1 := S1.out; have a2 := S2.out; have a4 := S4.out; have a7 := S7.out; have a8 := S8.out; have a10 := S10.out; have ab : w.heap.size ≤ w2.drew.heap.size := BS.out; omega) (by have a1 := S1.out; have a2 := S2.out; have a4 := S4.out; have a7 := S7.out; have a8 := S8.out; have a10 := S10.out; have ab : w.heap.size ≤ w2.drew.heap.size := BS.out; omega))
            have BH := Lib.hid H.out.1
            have KRS := Lib.hid (row_set (c := #[.int .i64 2, .slice si (codL lv X).length ci', .slice none 0 0, .slice sn names.length cn', .slice (some ⟨n8, 0, none⟩) 1 1, .slice sl lv.length cl', .int .i64 0, .int .i64 0]) KN.out.out)
            clear H KN MP N1 IT TN TL N8
            go_wp2
            rw [XV1.out.1, XV1.out.2]
            exact vec_ret0S rfl rfl rfl rfl KRS.out ⟨_, rfl, (OW.out.row2 (show w.heap.size + 1 < w2.drew.heap.size from hrl)).wide (show w.heap.size ≤ w2.drew.heap.size from BS.out) (row_size _ _ _), below_row BH.out (Nat.le_succ _) _⟩
        · refine run_bldS (u := .string facB) (show opAt (opsOf Tryz.f10 8) 8 = some (some 33, .buildSlice 24 1 #[(0, (.const (.string ⟨#[102, 97, 99, 116, 111, 114]⟩)))], none) from by kernel_rfl) (by kernel_rfl) (by kernel_rfl) (by kernel_rfl) (fun v => bld_tx facB v) (fun W8 n8 hW hn => ?_)
          have hb := below_new hW
          have N8 := Lib.hid (newB_of hW hn)
          have S8 := Lib.hid (size_new hW hn)
          refine ⟨heldC_call H.out hb, ?_⟩
          have H := Lib.hid (heldC_call H.out hb)
          have KN := Lib.hid (KN.out.keep hb)
          clear hb hW hn
          refine run_bldS (u := .slice la nl lc) (show opAt (opsOf Tryz.f10 8) 1 = some (some 26, .buildSlice 72 1 #[(0, (.tmp 25))], none) from by kernel_rfl) (by kernel_rfl) (by kernel_rfl) (by kernel_rfl) (fun v => bld_sl la nl lc v) (fun W1 n1 hW hn => ?_)
          have hb := below_new hW
          have N1 := Lib.hid (newB_of hW hn)
          have S1 := Lib.hid (size_new hW hn)
          refine ⟨heldC_call H.out hb, ?_⟩
          have H := Lib.hid (heldC_call H.out hb)
          have KN := Lib.hid (KN.out.keep hb)
          have N8 := Lib.hid (N8.out.keep hb)
          clear hb hW hn
          refine run_call (args := [.slice (some ⟨n1, 0, none⟩) 1 1]) (show opAt (opsOf Tryz.f10 8) 2 = some (some 27, .call { callee := .value (.func 26), args := [(.tmp 26)].toArray, argTypes := [72].toArray }, none) from by kernel_rfl) (by kernel_rfl) (by kernel_rfl) (by kernel_rfl) (by kernel_rfl) ?_
          refine (CK.out _ n1 N1.out H.out.1).mono ?_
          rintro en rw2 ⟨g1, rfl, hm, hb⟩
          refine ⟨_, rfl, heldC_call H.out hb, ?_⟩
          have H := Lib.hid (heldC_call H.out hb)
          have KN := Lib.hid (KN.out.keep hb)
          have N8 := Lib.hid (N8.out.keep hb)
          have N1 := Lib.hid (N1.out.keep hb)
          have MP := Lib.hid hm
          have S2 := Lib.hid hb.size
          clear hb hm
          refine run_call (args := [.map (some g1), .agg #[.int .i64 kk, .slice ai items.length ci, .slice ap parts.length cp, .slice an names.length cn, .slice ac cls.length cc, .slice al levels.length cl, .int .i64 code, .int .i64 env]]) (show opAt (opsOf Tryz.f10 8) 4 = some (some 29, .call { callee := .value (.func 27), args := [(.tmp 27), (.tmp 28)].toArray, argTypes := [51, 32].toArray }, none) from by kernel_rfl) (by kernel_rfl) (by kernel_rfl) (by kernel_rfl) (by kernel_rfl) ?_
          refine (CE.out _ g1 MP.out H.out.1).mono ?_
          rintro en rw4 ⟨vi, rfl, hit⟩
          have hb := hit.below
          obtain ⟨si, ci', Fi, rfl, hi'⟩ := ItsC.of hit
          refine ⟨_, rfl, heldC_call H.out hb, ?_⟩
          have H := Lib.hid (heldC_call H.out hb)
          have KN := Lib.hid (KN.out.keep hb)
          have N8 := Lib.hid (N8.out.keep hb)
          have N1 := Lib.hid (N1.out.keep hb)
          have MP := Lib.hid (MP.out.keep hb)
          have IT := Lib.hid hi'
          have S4 := Lib.hid hb.size
          clear hb hit hi'
          refine run_call (args := [.slice an names.length cn]) (show opAt (opsOf Tryz.f10 8) 7 = some (some 32, .call { callee := .value (.func 28), args := [(.tmp 31)].toArray, argTypes := [24].toArray }, none) from by kernel_rfl) (by kernel_rfl) (by kernel_rfl) (by kernel_rfl) (by kernel_rfl) ?_
          refine (CN.out _ H.out.1).mono ?_
          rintro en rw7 ⟨vn, rfl, hcp, hb⟩
          obtain ⟨sn, cn', Fn, rfl, ht⟩ := TxsC.of hcp
          refine ⟨_, rfl, heldC_call H.out hb, ?_⟩
          have H := Lib.hid (heldC_call H.out hb)
          have KN := Lib.hid (KN.out.keep hb)
          have N8 := Lib.hid (N8.out.keep hb)
          have N1 := Lib.hid (N1.out.keep hb)
          have MP := Lib.hid (MP.out.keep hb)
          have IT := Lib.hid (IT.out.keep hb)
          have TN := Lib.hid ht
          have S7 := Lib.hid hb.size
          clear hb hcp ht
          refine run_call (args := [.slice la nl lc]) (show opAt (opsOf Tryz.f10 8) 10 = some (some 35, .call { callee := .value (.func 28), args := [(.tmp 34)].toArray, argTypes := [24].toArray }, none) from by kernel_rfl) (by kernel_rfl) (by kernel_rfl) (by kernel_rfl) (by kernel_rfl) ?_
          refine (CL.out _ H.out.1).mono ?_
          rintro en rw10 ⟨vl, rfl, hcp, hb⟩
          obtain ⟨sl, cl', Fl, rfl, ht⟩ := TxsC.of hcp
          refine ⟨_, rfl, heldC_call H.out hb, ?_⟩
          have H := Lib.hid (heldC_call H.out hb)
          have KN := Lib.hid (KN.out.keep hb)
          have N8 := Lib.hid (N8.out.keep hb)
          have N1 := Lib.hid (N1.out.keep hb)
          have MP := Lib.hid (MP.out.keep hb)
          have IT := Lib.hid (IT.out.keep hb)
          have TN := Lib.hid (TN.out.keep hb)
          have TL := Lib.hid ht
          have S10 := Lib.hid hb.size
          clear hb hcp ht
          refine run_bldFac (sa := si) (n := (codL lv X).length) (m := ci') (sb := sn) (n' := names.length) (m' := cn') (sc := some ⟨n8, 0, none⟩) (p := 1) (q := 1) (sd := sl) (p' := lv.length) (q' := cl') (show opAt (opsOf Tryz.f10 8) 11 = some (some 36, .build 32 #[(0, (.const (.int .i64 2))), (1, (.tmp 29)), (3, (.tmp 32)), (4, (.tmp 33)), (5, (.tmp 35))], none) from by kernel_rfl) (by kernel_rfl) (by kernel_rfl) (by kernel_rfl) (by kernel_rfl) (by kernel_rfl) (by kernel_rfl) H.out ?_
          refine run_store (w' := rw10.setRow (w.heap.size + 1) #[.int .i64 2, .slice si (codL lv X).length ci', .slice none 0 0, .slice sn names.length cn', .slice (some ⟨n8, 0, none⟩) 1 1, .slice sl lv.length cl', .int .i64 0, .int .i64 0]) (show opAt (opsOf Tryz.f10 8) 12 = some (none, .store 32 (.tmp 4) (.tmp 36), none) from by kernel_rfl) (by kernel_rfl) (by kernel_rfl) (by kernel_rfl) (store_vec8 KN.out.out (by simp [Value.oneCell'])) ⟨below_row H.out.1 (Nat.le_succ _) _, fun q hq => row_old (H.out.2 q hq) (by obtain rfl := List.mem_singleton.1 hq; simp only; omega)⟩ ?_
          refine run_asg (v := .string ⟨#[]⟩) (show opAt (opsOf Tryz.f10 8) 13 = some (some 5, .assign (.const (.string ⟨#[]⟩)), none) from by kernel_rfl) (by kernel_rfl) (by kernel_rfl) (by kernel_rfl) ?_
          refine run_done ?_
          simp only [putAll, Act.put, List.setIfInBounds_toArray, List.set_cons_zero, List.set_cons_succ]
          have OW := Lib.hid (fac_own (pa := none) (pc := 0) (lo := w2.drew.heap.size) IT.out TN.out N8.out TL.out (by have a1 := S1.out; have a2 := S2.out; have a4 := S4.out; have a7 := S7.out; have a8 := S8.out; have a10 := S10.out; have ab : w.heap.size ≤ w2.drew.heap.size := BS.out; omega) (by have a1 := S1.out; have a2 := S2.out; have a4 := S4.out; have a7 := S7.out; have a8 := S8.out; have a10 := S10.out; have ab : w.heap.size ≤ w2.drew.heap.size := BS.out; omega) (by have a1 := S1.out; have a2 := S2.out; have a4 := S4.out; have a7 := S7.out; have a8 := S8.out; have a10 := S10.out; have ab : w.heap.size ≤ w2.drew.heap.size := BS.out; omega) (by have a1 := S1.out; have a2 := S2.out; have a4 := S4.out; have a7 := S7.out; have a8 := S8.out; have a10 := S10.out; have ab : w.heap.size ≤ w2.drew.heap.size := BS.out; omega) (by have a1 := S1.out; have a2 := S2.out; have a4 := S4.out; have a7 := S7.out; have a8 := S8.out; have a10 := S10.out; have ab : w.heap.size ≤ w2.drew.heap.size := BS.out; omega) (by have a1 := S1.out; have a2 := S2.out; have a4 := S4.out; have a7 := S7.out; have a8 := S8.out; have a10 := S10.out; have ab : w.heap.size ≤ w2.drew.heap.size := BS.out; omega) (by have a1 := S1.out; have a2 := S2.out; have a4 := S4.out; have a7 := S7.out; have a8 := S8.out; have a10 := S10.out; have ab : w.heap.size ≤ w2.drew.heap.size := BS.out; omega))
          have BH := Lib.hid H.out.1
          have KRS := Lib.hid (row_set (c := #[.int .i64 2, .slice si (codL lv X).length ci', .slice none 0 0, .slice sn names.length cn', .slice (some ⟨n8, 0, none⟩) 1 1, .slice sl lv.length cl', .int .i64 0, .int .i64 0]) KN.out.out)
          clear H KN MP N1 IT TN TL N8
          go_wp2
          rw [XV1.out.1, XV1.out.2]
          exact vec_ret0S rfl rfl rfl rfl KRS.out ⟨_, rfl, (OW.out.row2 (show w.heap.size + 1 < w2.drew.heap.size from hrl)).wide (show w.heap.size ≤ w2.drew.heap.size from BS.out) (row_size _ _ _), below_row BH.out (Nat.le_succ _) _⟩
      · have XV1 := Lib.hid (XB.out hs h0 h1)
        clear hs XA XN XB XY CK LF LD OK
        go_wp2_with fail
        with_reducible refine (CB.out _ B2.out).mono ?_
        rintro e w3 ⟨rfl, rfl⟩
        rw [bB_no h1]
        obtain ⟨z0, z1, z2, z3, z4, z5, z6, z7⟩ := vec8 KR.out
        obtain ⟨f0, f1, f2, f3, f4, f5, f6, f7⟩ := free8 KR.out
        go_wp2
        rw [XV1.out.1, XV1.out.2]
        exact vec_endS rfl rfl rfl rfl KR.out (zeroS _ w _ (put8_below B2.out (Nat.le_succ _)))
  · have XV1 := Lib.hid (XA.out hs)
    obtain ⟨R, hR⟩ : ∃ R, atmS VV = R := ⟨_, rfl⟩
    rw [hR] at hs XV1 ⊢
    have hRb : (R.toList == []) = false := by have h := str_not hs; rw [ByteArray.toList_eq ⟨#[]⟩] at h; exact h
    clear hs hR
    obtain ⟨z0, z1, z2, z3, z4, z5, z6, z7⟩ := vec8 KR.out
    obtain ⟨f0, f1, f2, f3, f4, f5, f6, f7⟩ := free8 KR.out
    go_wp2
    rw [XV1.out.1, XV1.out.2]
    exact vec_endS rfl rfl rfl rfl KR.out (zeroS _ w _ (put8_below B2.out (Nat.le_succ _)))
end Go.Proofs.YtddebgmjolojeaaGreatDoor

/- l5Plain of the reference. -/
namespace Go.Proofs.YtddebgmjolojeaaGreatDoor
open Go.RowKit
set_option maxRecDepth 100000
set_option linter.unusedVariables false

theorem build_vI {w : World} {k : Int} {a : Option Addr} {n m : Nat} : (Instr.build 32 #[(0, .int .i64 k), (1, .slice a n m)]).run Tryz.prog w = .ok (.agg #[.int .i64 k, .slice a n m, .slice none 0 0, .slice none 0 0, .slice none 0 0, .slice none 0 0, .int .i64 0, .int .i64 0]) w := by
  kernel_rfl
theorem addr_itemJ {w' : World} {b o f : Nat} (hf : f < 3) : (Instr.fieldAt 62 (.pointer (some ⟨b, o, none⟩)) f).run Tryz.prog w' = .ok (.pointer (some ⟨b, o + f, none⟩)) w' := by
  rcases (show f = 0 ∨ f = 1 ∨ f = 2 by omega) with rfl | rfl | rfl <;> simp [Instr.fieldAt, go_sem] <;> rfl
section
variable {ops : Array Oper} {Q : Exit → Act → World → Prop} {S : World → Prop}
variable {r : List (Nat × Bool)} {a : Act} {e : List (Nat × Value)} {w : World} {i d : Nat} {g : Option (Nat × Bool)} {v : Value}
theorem runC_partJ {x : Operand} {f b o : Nat} (hf : Nat.blt f 3 = true) (ho : opAt ops i = some (some d, .fieldAddr 62 x f, g)) (hd : Nat.blt d a.tmps.size = true) (hw : wantE ops a e g = some true)
    (hx : lookO a e x = .pointer (some ⟨b, o, none⟩)) (h : RunE Tryz.prog ops Q S r a ((d, .pointer (some ⟨b, o + f, none⟩)) :: e) w) : RunE Tryz.prog ops Q S ((i, true) :: r) a e w :=
  run_addr ho hd hw hx (fun w' => addr_itemJ (Nat.le_of_ble_eq_true hf)) h
theorem run_bldI {k : Int} {z x : Operand} {sa : Option Addr} {n m : Nat} (ho : opAt ops i = some (some d, .build 32 #[(0, z), (1, x)], g)) (hd : Nat.blt d a.tmps.size = true) (hw : wantE ops a e g = some true)
    (hz : lookO a e z = .int .i64 k) (hx : lookO a e x = .slice sa n m)
    (h : RunE Tryz.prog ops Q S r a ((d, .agg #[.int .i64 k, .slice sa n m, .slice none 0 0, .slice none 0 0, .slice none 0 0, .slice none 0 0, .int .i64 0, .int .i64 0]) :: e) w) : RunE Tryz.prog ops Q S ((i, true) :: r) a e w :=
  run_yield ho hd hw (fun o w' h1 _ => by
    unfold execOp
    simp only [h1, List.map_toArray, List.map_cons, List.map_nil, hx, hz]
    exact run_v build_vI) h
/-- A slice of no items. -/
theorem run_mk0I (ho : opAt ops i = some (some d, .buildSlice 29 0 #[], g)) (hd : Nat.blt d a.tmps.size = true) (hw : wantE ops a e g = some true)
    (h : ∀ W n, W = w.alloc (.cells #[] 62) → n = w.heap.size → S W ∧ RunE Tryz.prog ops Q S r a ((d, .slice (some ⟨n, 0, none⟩) 0 0) :: e) W) : RunE Tryz.prog ops Q S ((i, false) :: r) a e w := by
  obtain ⟨hS, hR⟩ := h _ _ rfl rfl
  obtain ⟨ie, hie, _⟩ := info_parts infoItm3
  refine run_eff (op := .buildSlice 29 0 #[]) ho hd hw (fun o h1 => ?_) hS hR
  unfold execOp
  have hb := run_buildSlice0 (P := Tryz.prog) w 29 62 ie Tryz.underlying29 hie
  simp only [h1, List.map_toArray, List.map_nil, Sem.run_bind, hb, Result.andThen_ok]
  rfl
end
/-- What l5Plain works on: the vector's variable, its items in a row of their own. -/
structure PlnU (W0 wx : World) (gu : Nat) (kc : Int) (v' : Value) (l : List It) : Prop where
  blk : wx.heap[gu]? = some (.cells #[.int .i64 kc, v', .slice none 0 0, .slice none 0 0, .slice none 0 0, .slice none 0 0, .int .i64 0, .int .i64 0] 32 (0, 0))
  row : wx.ownsRow W0.heap.size 62 3 v' l.length (itCells l)
  ne : v'.ownBlock ≠ some gu
  ge : W0.heap.size ≤ gu
  below : Below W0.heap.size W0 wx
theorem PlnU.keep {W0 wx w1 : World} {gu : Nat} {kc : Int} {v' : Value} {l : List It} (h : PlnU W0 wx gu kc v' l) (hb : Below wx.heap.size wx w1) : PlnU W0 w1 gu kc v' l :=
  ⟨blk_below hb h.blk, ownsRow_below h.row hb, h.ne, h.ge, below_then h.below hb⟩
theorem plnU_end {W0 w : World} {gu : Nat} {kk : Int} {sa : Option Addr} {n c : Nat} {l : List It} {C : Array Value} (hb : w.heap[gu]? = some (.cells C 32 (0, 0))) (hr : w.ownsRow W0.heap.size 62 3 (.slice sa n c) l.length (itCells l)) (ne : (Value.slice sa n c).ownBlock ≠ some gu) (ge : W0.heap.size ≤ gu) (hB : Below W0.heap.size W0 w) :
    PlnU W0 (w.setRow gu #[.int .i64 kk, .slice sa n c, .slice none 0 0, .slice none 0 0, .slice none 0 0, .slice none 0 0, .int .i64 0, .int .i64 0]) gu kk (.slice sa n c) l :=
  ⟨row_set hb, ownsRow_kept hr (fun g hg => row_old rfl (fun e => ne (by rw [hg, e]))), ne, ge, below_row hB ge _⟩
theorem row_formS {w : World} {B n : Nat} {t : TypeId} {size : Nat} {v : Value} {xs : List Value} (h : w.ownsRow B t size v n xs) : ∃ sa c, v = .slice sa n c := by
  obtain ⟨_, ⟨e, h0⟩ | ⟨g, cap, cur, e, _⟩⟩ := h
  · exact ⟨_, _, by rw [e, h0]⟩
  · exact ⟨_, _, e⟩
theorem itCells_set (z : It) : ∀ (l : List It) (k : Nat), k < l.length → itCells (l.set k z) = (itCells l).take (k * 3) ++ [Value.int .i64 z.n, .int .i64 z.d, .string z.t] ++ (itCells l).drop (k * 3 + 3)
  | [], k, h => absurd h (Nat.not_lt_zero _)
  | x :: l, 0, _ => by simp [itCells]
  | x :: l, k + 1, h => by
    have ih := itCells_set z l k (by simpa using h)
    have e : (k + 1) * 3 = k * 3 + 3 := by omega
    rw [List.set_cons_succ]
    simp only [itCells, e]
    rw [ih]
    simp
theorem row_setI {w : World} {B g n c k : Nat} {cur : Array Value} {l : List It} {z : It} (h : w.ownsRow B 62 3 (.slice (some ⟨g, 0, none⟩) n c) l.length (itCells l)) (hg : w.heap[g]? = some (.cells cur 62 (0, 0))) (hk : k < l.length) :
    k * 3 + 3 ≤ cur.size ∧ (w.setRow g (cur.toList.take (k * 3) ++ [Value.int .i64 z.n, .int .i64 z.d, .string z.t] ++ cur.toList.drop (k * 3 + 3)).toArray).ownsRow B 62 3 (.slice (some ⟨g, 0, none⟩) n c) l.length (itCells (l.set k z)) := by
  obtain ⟨h0, ⟨e, _⟩ | ⟨g', cap, cur', e, hB, hb, hn, hm, hs, ht⟩⟩ := h
  · cases e
  · simp only [Value.slice.injEq, Option.some.injEq, Addr.mk.injEq] at e
    obtain ⟨⟨rfl, _⟩, rfl, rfl⟩ := e
    rw [hb] at hg
    simp only [Option.some.injEq, Obj.cells.injEq] at hg
    obtain ⟨rfl, _⟩ := hg
    have h3 : l.length * 3 ≤ c * 3 := by omega
    refine ⟨by omega, ?_, .inr ⟨g, c, _, rfl, hB, setRow_heap _ _ _ _ _ _ hb, hn, hm, ?_, ?_⟩⟩
    · rw [itCells_len, List.length_set]
    · simp [hs]; omega
    · have e1 : cur'.toList.take (k * 3) = (itCells l).take (k * 3) := by rw [← ht, List.take_take, Nat.min_eq_left (by omega)]
      have e2 : (cur'.toList.drop (k * 3 + 3)).take (l.length * 3 - (k * 3 + 3)) = (itCells l).drop (k * 3 + 3) := by rw [← ht, List.drop_take]
      have hl : (cur'.toList.take (k * 3) ++ [Value.int .i64 z.n, .int .i64 z.d, .string z.t]).length = k * 3 + 3 := by simp [hs]; omega
      rw [itCells_set z l k hk, ← e1, ← e2]
      show List.take _ (cur'.toList.take (k * 3) ++ [Value.int .i64 z.n, .int .i64 z.d, .string z.t] ++ cur'.toList.drop (k * 3 + 3)) = _
      rw [List.take_append, hl, List.take_of_length_le (by rw [hl]; omega)]
theorem store_itemAt {w : World} {g o : Nat} {cur : Array Value} {x y z : Value} (h : w.heap[g]? = some (.cells cur 62 (0, 0))) (hl : o + 3 ≤ cur.size) (hx : x.oneCell' = true) (hy : y.oneCell' = true) (hz : z.oneCell' = true) :
    (Instr.storeAt 62 (.pointer (some ⟨g, o, none⟩)) (.agg #[x, y, z])).run Tryz.prog w = .ok () (w.setRow g (cur.toList.take o ++ [x, y, z] ++ cur.toList.drop (o + 3)).toArray) := by
  have q := run_storeCells_at (P := Tryz.prog) g o 62 [x, y, z] 0 cur w h (by simp; omega) (fun v hv => by
    simp only [List.mem_cons, List.not_mem_nil, or_false] at hv
    rcases hv with rfl | rfl | rfl
    · exact hx
    · exact hy
    · exact hz)
  obtain ⟨ie, hie, _, hsz, _⟩ := info_parts infoItm3
  simp only [Instr.storeAt, Instr.sureAddr, Sem.run_bind, Sem.run_pure, Result.andThen_ok]
  simp only [Nat.add_zero, List.length_cons, List.length_nil, Nat.zero_add] at q
  simp [storeVar, sizeOf, typeInfo, hie, Value.cells, hsz, q]
/-- The first k items plain. -/
def mixP (levels : List ByteArray) (items : List It) (k : Nat) : List It := itF (fun i => if i < k then plnI levels (items.getD i noI) else items.getD i noI) items.length
theorem mixP_len (levels : List ByteArray) (items : List It) (k : Nat) : (mixP levels items k).length = items.length := itF_len _ _
theorem mixP_zero (levels : List ByteArray) (items : List It) : mixP levels items 0 = items := by
  apply List.ext_getElem
  · exact mixP_len _ _ _
  · intro i h1 h2
    simp [mixP, itF, List.getD_eq_getElem?_getD, h2]
theorem mixP_full (levels : List ByteArray) (items : List It) : mixP levels items items.length = plnL levels items := by
  unfold mixP plnL itF
  exact List.map_congr_left (fun i hi => if_pos (List.mem_range.1 hi))
theorem mixP_at {levels : List ByteArray} {items : List It} {k : Nat} (h : k < items.length) : (mixP levels items k).getD k noI = items.getD k noI := by
  unfold mixP
  rw [itF_getD _ h, if_neg (Nat.lt_irrefl k)]
theorem mixP_set {levels : List ByteArray} {items : List It} {k : Nat} (h : k < items.length) : (mixP levels items k).set k (plnI levels (items.getD k noI)) = mixP levels items (k + 1) := by
  apply List.ext_getElem
  · rw [List.length_set, mixP_len, mixP_len]
  · intro i h1 h2
    rw [List.getElem_set]
    simp only [mixP, itF, List.getElem_map, List.getElem_range]
    by_cases e : k = i
    · subst e; simp
    · rw [if_neg e]
      by_cases h3 : i < k
      · rw [if_pos h3, if_pos (by omega)]
      · rw [if_neg h3, if_neg (by omega)]
theorem mixP_same {levels : List ByteArray} {items : List It} {k : Nat} (e : plnI levels (items.getD k noI) = items.getD k noI) : mixP levels items (k + 1) = mixP levels items k := by
  unfold mixP itF
  refine List.map_congr_left (fun i _ => ?_)
  by_cases h : i = k
  · subst h; rw [if_pos (Nat.lt_succ_self i), if_neg (Nat.lt_irrefl i), e]
  · by_cases h3 : i < k
    · rw [if_pos h3, if_pos (by omega)]
    · rw [if_neg h3, if_neg (by omega)]
theorem PlnU.fin {w W0 wr : World} {gu r n c : Nat} {kc : Int} {sa : Option Addr} {l : List It} (h : PlnU W0 wr gu kc (.slice sa n c) l) (hr : w.heap.size ≤ r ∧ r < W0.heap.size) (hB : Below w.heap.size w W0) :
    ResV 1 (vecOf kc l) w (.returned (.agg #[.int .i64 kc, .slice sa n c, .slice none 0 0, .slice none 0 0, .slice none 0 0, .slice none 0 0, .int .i64 0, .int .i64 0])) (put8 wr r 0 (.int .i64 kc) (.slice sa n c) (.slice none 0 0) (.slice none 0 0) (.slice none 0 0) (.slice none 0 0) (.int .i64 0) (.int .i64 0)) := by
  have ho := own_vecOf (k := kc) (lo := W0.heap.size) h.row (Nat.le_refl _)
  refine ⟨_, rfl, (ho.put8 hr.2 _ _ _ _ _ _ _ _).wide (by omega) ?_, put8_below (below_then hB h.below) hr.1⟩
  rw [put8_size]
  exact Nat.le_refl _
theorem PlnU.set0 {W0 wr : World} {gu : Nat} {kc k' : Int} {v' : Value} {l : List It} (h : PlnU W0 wr gu kc v' l) : PlnU W0 (wr.setCell ⟨gu, 0, none⟩ (.int .i64 k')) gu k' v' l :=
  ⟨Joins.block_setCell h.blk _, ownsRow_kept h.row (fun g hg => Below.heap_setCell _ _ _ _ (fun e => h.ne (by rw [hg, e]))), h.ne, h.ge, h.below.setCell (p := ⟨gu, 0, none⟩) h.ge _⟩
/-- The row, opened. -/
theorem PlnU.cells {W0 wr : World} {gu n c k : Nat} {kc : Int} {sa : Option Addr} {l : List It} (h : PlnU W0 wr gu kc (.slice sa n c) l) (hk : k < l.length) : ∃ g cur, sa = some ⟨g, 0, none⟩ ∧ n = l.length ∧ W0.heap.size ≤ g ∧ g ≠ gu ∧ wr.heap[g]? = some (.cells cur 62 (0, 0)) ∧ cur[k * 3]? = some (.int .i64 (l.getD k noI).n) ∧ cur[k * 3 + 1]? = some (.int .i64 (l.getD k noI).d) ∧ cur[k * 3 + 2]? = some (.string (l.getD k noI).t) := by
  have hne := h.ne
  obtain ⟨h0, ⟨_, e⟩ | ⟨g, cap, cur, e, hB, hb, hn, hm, hs, ht⟩⟩ := h.row
  · omega
  · simp only [Value.slice.injEq] at e
    obtain ⟨rfl, rfl, rfl⟩ := e
    have e3 : ∀ j, j < l.length * 3 → cur[j]? = (itCells l)[j]? := fun j hj => by rw [← ht, List.getElem?_take, if_pos hj, Array.getElem?_toList]
    obtain ⟨q0, q1, q2⟩ := itCells_at l k hk
    exact ⟨g, cur, rfl, rfl, hB, fun e => hne (by rw [← e]; rfl), hb, (e3 _ (by omega)).trans q0, (e3 _ (by omega)).trans q1, (e3 _ (by omega)).trans q2⟩
theorem PlnU.put {W0 wr : World} {gu n c k g o : Nat} {kc : Int} {l : List It} {cur : Array Value} {z : It} (h : PlnU W0 wr gu kc (.slice (some ⟨g, 0, none⟩) n c) l) (hg : wr.heap[g]? = some (.cells cur 62 (0, 0))) (hk : k < l.length) (ho : o = k * 3) : o + 3 ≤ cur.size ∧ PlnU W0 (wr.setRow g (cur.toList.take o ++ [Value.int .i64 z.n, .int .i64 z.d, .string z.t] ++ cur.toList.drop (o + 3)).toArray) gu kc (.slice (some ⟨g, 0, none⟩) n c) (l.set k z) := by
  subst ho
  obtain ⟨h1, h2⟩ := row_setI (z := z) h.row hg hk
  have hge := (h.row.lt g rfl).1
  refine ⟨h1, row_old h.blk (fun e => h.ne (by rw [e]; rfl)), ?_, h.ne, h.ge, below_row h.below hge _⟩
  rw [List.length_set]
  exact h2
theorem plnL_no {levels : List ByteArray} {items : List It} (h : levels.length = 0) : plnL levels items = items := by
  apply List.ext_getElem
  · exact plnL_len _ _
  · intro i h1 h2
    have e : plnI levels (items.getD i noI) = items.getD i noI := pln_same (.inr h)
    simp only [plnL, itF, List.getElem_map, List.getElem_range]
    rw [e]
    simp [List.getD_eq_getElem?_getD, h2]
set_option maxHeartbeats 8000000 in
theorem specPlain (d : Nat) (kk : Int) (items : List It) (parts : List Vec) (names cls levels : List ByteArray) (code env : Int) (val : Value) (lo hi : Nat) (w : World) (hv : VecAt lo hi w d (.mk kk items parts names cls levels code env) val) (hhi : hi ≤ w.heap.size) (ok : AtmOk kk items levels) :
    Calls Tryz.prog 58 #[val] w (ResV 1 (vecOf (plnK kk levels) (plnL levels items)) w) := by
  obtain ⟨d', ai, ci, ap, cp, an, cn, ac, cc, al, cl, ed, rfl, hI, hN, hC, hL, hP⟩ := vecAt_open hv
  have NI := Lib.hid (fun (W : World) (hb : Below w.heap.size w W) (hp : 0 < items.length) => show ∃ ad : Addr, ai = some ad ∧ ∀ j u, (itCells items)[j]? = some u → W.cell? (ad.add j) = some u from by
    have h := hI.below hb hhi
    obtain ⟨b, off, rfl⟩ := items_some h hp
    exact ⟨_, rfl, itCells_in h⟩)
  have li := ok.len
  obtain ⟨ieI, hieI⟩ := info_parts infoItm3
  clear hv hP hN hC ed
  obtain ⟨W0, hW0⟩ : ∃ W, (w.alloc (.cells #[.int .i64 kk, .slice ai items.length ci, .slice ap parts.length cp, .slice an names.length cn, .slice ac cls.length cc, .slice al levels.length cl, .int .i64 code, .int .i64 env] 32)).alloc (.cells #[.int .i64 0, .slice none 0 0, .slice none 0 0, .slice none 0 0, .slice none 0 0, .slice none 0 0, .int .i64 0, .int .i64 0] 32) = W := ⟨_, rfl⟩
  have hsz : (w.alloc (.cells #[.int .i64 kk, .slice ai items.length ci, .slice ap parts.length cp, .slice an names.length cn, .slice ac cls.length cc, .slice al levels.length cl, .int .i64 code, .int .i64 env] 32)).heap.size = w.heap.size + 1 := by simp
  have BW0 := Lib.hid (show Below w.heap.size w W0 from hW0 ▸ below2 w _ _)
  have SW0 := Lib.hid (show W0.heap.size = w.heap.size + 2 by rw [← hW0]; simp)
  have KARG0 := Lib.hid (show W0.heap[w.heap.size]? = some (.cells #[.int .i64 kk, .slice ai items.length ci, .slice ap parts.length cp, .slice an names.length cn, .slice ac cls.length cc, .slice al levels.length cl, .int .i64 code, .int .i64 env] 32 (0, 0)) from hW0 ▸ blk_old (blk_new w _ rfl))
  have KR0 := Lib.hid (show W0.heap[w.heap.size + 1]? = some (.cells #[.int .i64 0, .slice none 0 0, .slice none 0 0, .slice none 0 0, .slice none 0 0, .slice none 0 0, .int .i64 0, .int .i64 0] 32 (0, 0)) from hW0 ▸ blk_new _ _ hsz.symm)
  have EW := Lib.hid hW0
  clear hW0 hsz
  have NI := Lib.hid (fun (W : World) (hb : Below W0.heap.size W0 W) => NI.out W (below_then BW0.out hb))
  have H := Lib.hid (show HeldC W0 W0 ([(w.heap.size, 32, #[.int .i64 kk, .slice ai items.length ci, .slice ap parts.length cp, .slice an names.length cn, .slice ac cls.length cc, .slice al levels.length cl, .int .i64 code, .int .i64 env])]) from ⟨Below.refl _ _, fun q hq => by obtain rfl := List.mem_singleton.1 hq; exact KARG0.out⟩)
  go_enter Tryz.func58, Tryz.ntmps58
  go_upto_region 1 with (fail)
  rw [EW.out]
  go_cut [3] from 5 to 11 (fun pu wx => ∃ (gu : Nat) (sa : Option Addr) (c : Nat), pu = .pointer (some ⟨gu, 0, none⟩) ∧ PlnU W0 wx gu kk (.slice sa items.length c) items)
  case first =>
    refine run_regionT (ops := (opsOf Tryz.f58 1)) (S := fun w' => HeldC W0 w' ([(w.heap.size, 32, #[.int .i64 kk, .slice ai items.length ci, .slice ap parts.length cp, .slice an names.length cn, .slice ac cls.length cc, .slice al levels.length cl, .int .i64 code, .int .i64 env])])) (.fork [(0, true), (1, true), (3, true), (4, true)] 2 (.fork [] 5 (.leaf [(6, true), (7, false), (8, false)]) 7 (.leaf [(5, false), (6, true), (8, false)])) 7 (.leaf [(2, false), (5, false), (6, true), (8, false)])) (by kernel_rfl) (by kernel_rfl) (by kernel_rfl) (by kernel_rfl) (by kernel_rfl) (fun _ _ _ _ _ h => h) (heldC_drew H.out) ?_
    have H := Lib.hid (heldC_drew H.out)
    refine runC_partV (b := w.heap.size) (by kernel_rfl) (show opAt (opsOf Tryz.f58 1) 0 = some (some 5, .fieldAddr 32 (.tmp 1) 0, none) from by kernel_rfl) (by kernel_rfl) (by kernel_rfl) (by kernel_rfl) ?_
    refine runC_cell (b := w.heap.size) (j := 0) (v := .int .i64 kk) load_int (show opAt (opsOf Tryz.f58 1) 1 = some (some 6, .load 3 (.tmp 5), none) from by kernel_rfl) (by kernel_rfl) (by kernel_rfl) (by kernel_rfl) (List.Mem.head _) rfl ?_
    refine runC_partV (b := w.heap.size) (by kernel_rfl) (show opAt (opsOf Tryz.f58 1) 3 = some (some 8, .fieldAddr 32 (.tmp 1) 1, none) from by kernel_rfl) (by kernel_rfl) (by kernel_rfl) (by kernel_rfl) ?_
    refine runC_cell (b := w.heap.size) (j := 1) (v := .slice ai items.length ci) load_its (show opAt (opsOf Tryz.f58 1) 4 = some (some 9, .load 29 (.tmp 8), none) from by kernel_rfl) (by kernel_rfl) (by kernel_rfl) (by kernel_rfl) (List.Mem.head _) rfl ?_
    refine run_fork H.out (by kernel_rfl) (by kernel_rfl) ?_ ?_
    · refine run_mk0I (show opAt (opsOf Tryz.f58 1) 2 = some (some 7, .buildSlice 29 0 #[], none) from by kernel_rfl) (by kernel_rfl) (by kernel_rfl) (fun W2 n2 hW2 hn2 => ?_)
      subst hW2
      have KE := Lib.hid (show (_ : World).ownsRow W0.heap.size 62 3 (.slice (some ⟨n2, 0, none⟩) 0 0) 0 [] from ⟨by simp, .inr ⟨n2, 0, #[], rfl, by rw [hn2]; exact H.out.1.size, blk_new _ _ hn2, Nat.le_refl _, Nat.zero_le _, by simp, by simp⟩⟩)
      refine ⟨heldC_call H.out (below1 _ (.cells #[] 62)), ?_⟩
      have H := Lib.hid (heldC_call H.out (below1 _ (.cells #[] 62)))
      clear hn2
      refine run_fork H.out (by kernel_rfl) (by kernel_rfl) ?_ ?_
      · refine run_appM (P := Tryz.prog) (show opAt (opsOf Tryz.f58 1) 5 = some (some 10, .call { callee := .builtin .append, args := [(.tmp 7), (.tmp 9)].toArray, argTypes := [29, 29].toArray }, none) from by kernel_rfl) (by kernel_rfl) (by kernel_rfl) (by kernel_rfl) ai items.length ci (by kernel_rfl) W0.heap.size ieI _ 3 32 Tryz.underlying29 hieI.1 hieI.2.1 hieI.2.2.1 hieI.2.2.2 rfl (by decide) 0 [] KE.out (fun _ => rfl) (itCells items) (itCells_len _) (NI.out _ H.out.1) (itCells_one items) (by unfold maxLen; omega) (by omega) H.out.1.size (fun v' W5 hO hg hwh => ?_)
        rw [Nat.zero_add, List.nil_append] at hO
        obtain ⟨sa, c, rfl⟩ := row_formS hO
        have HG := Lib.hid (heldC_grown H.out hg (fun k hk => ⟨(KE.out.lt k hk).1, fun q hq => by obtain rfl := List.mem_singleton.1 hq; have := (KE.out.lt k hk).1; have := SW0.out; simp only; omega⟩))
        refine ⟨HG.out, ?_⟩
        have H := HG
        have RW := Lib.hid hO
        clear HG hO hg hwh KE
        refine run_bldI (k := kk) (sa := sa) (n := items.length) (m := c) (show opAt (opsOf Tryz.f58 1) 6 = some (some 11, .build 32 #[(0, (.tmp 6)), (1, (.tmp 10))], none) from by kernel_rfl) (by kernel_rfl) (by kernel_rfl) (by kernel_rfl) (by kernel_rfl) ?_
        refine run_new (C := #[.int .i64 0, .slice none 0 0, .slice none 0 0, .slice none 0 0, .slice none 0 0, .slice none 0 0, .int .i64 0, .int .i64 0]) (show opAt (opsOf Tryz.f58 1) 7 = some (some 3, .alloc 32, none) from by kernel_rfl) (by kernel_rfl) (by kernel_rfl) new_vec (fun W7 n7 hW7 hn7 => ?_)
        subst hW7
        have NV := Lib.hid (⟨blk_new _ _ hn7⟩ : NewB n7 32 #[.int .i64 0, .slice none 0 0, .slice none 0 0, .slice none 0 0, .slice none 0 0, .slice none 0 0, .int .i64 0, .int .i64 0] _)
        have GV := Lib.hid (by rw [hn7]; exact H.out.1.size : W0.heap.size ≤ n7)
        have NE := Lib.hid (fun e => by have := (RW.out.lt n7 e).2; omega : (Value.slice sa items.length c).ownBlock ≠ some n7)
        have RW := Lib.hid (ownsRow_below RW.out (below1 _ (.cells #[.int .i64 0, .slice none 0 0, .slice none 0 0, .slice none 0 0, .slice none 0 0, .slice none 0 0, .int .i64 0, .int .i64 0] 32)))
        refine ⟨heldC_call H.out (below1 _ (.cells #[.int .i64 0, .slice none 0 0, .slice none 0 0, .slice none 0 0, .slice none 0 0, .slice none 0 0, .int .i64 0, .int .i64 0] 32)), ?_⟩
        have H := Lib.hid (heldC_call H.out (below1 _ (.cells #[.int .i64 0, .slice none 0 0, .slice none 0 0, .slice none 0 0, .slice none 0 0, .slice none 0 0, .int .i64 0, .int .i64 0] 32)))
        clear hn7
        refine run_last (by kernel_rfl) (show opAt (opsOf Tryz.f58 1) 8 = some (none, .store 32 (.tmp 3) (.tmp 11), none) from by kernel_rfl) (by kernel_rfl) (by kernel_rfl) (by kernel_rfl) (store_vec8 NV.out.out (show (#[.int .i64 kk, .slice sa items.length c, .slice none 0 0, .slice none 0 0, .slice none 0 0, .slice none 0 0, .int .i64 0, .int .i64 0] : Array Value).all (·.oneCell') = true from by simp [Value.oneCell'])) ?_
        refine run_done ?_
        simp only [putAll, Act.put, List.setIfInBounds_toArray, List.set_cons_zero, List.set_cons_succ]
        have PU := Lib.hid (plnU_end (kk := kk) NV.out.out RW.out NE.out GV.out H.out.1)
        clear NV RW NE GV H
        go_wp2_with fail
        go_meet
        exact ⟨n7, sa, c, rfl, PU.out⟩
      · refine run_new (C := #[.int .i64 0, .slice none 0 0, .slice none 0 0, .slice none 0 0, .slice none 0 0, .slice none 0 0, .int .i64 0, .int .i64 0]) (show opAt (opsOf Tryz.f58 1) 7 = some (some 3, .alloc 32, none) from by kernel_rfl) (by kernel_rfl) (by kernel_rfl) new_vec (fun W7 n7 hW7 hn7 => ?_)
        subst hW7
        have NV := Lib.hid (⟨blk_new _ _ hn7⟩ : NewB n7 32 #[.int .i64 0, .slice none 0 0, .slice none 0 0, .slice none 0 0, .slice none 0 0, .slice none 0 0, .int .i64 0, .int .i64 0] _)
        have GV := Lib.hid (by rw [hn7]; exact H.out.1.size : W0.heap.size ≤ n7)
        have NE := Lib.hid (fun e => by have := (KE.out.lt n2 rfl).2; omega : n2 ≠ n7)
        have KE := Lib.hid (ownsRow_below KE.out (below1 _ (.cells #[.int .i64 0, .slice none 0 0, .slice none 0 0, .slice none 0 0, .slice none 0 0, .slice none 0 0, .int .i64 0, .int .i64 0] 32)))
        refine ⟨heldC_call H.out (below1 _ (.cells #[.int .i64 0, .slice none 0 0, .slice none 0 0, .slice none 0 0, .slice none 0 0, .slice none 0 0, .int .i64 0, .int .i64 0] 32)), ?_⟩
        have H := Lib.hid (heldC_call H.out (below1 _ (.cells #[.int .i64 0, .slice none 0 0, .slice none 0 0, .slice none 0 0, .slice none 0 0, .slice none 0 0, .int .i64 0, .int .i64 0] 32)))
        clear hn7
        have LT7 := Lib.hid (Array.getElem?_eq_some_iff.1 NV.out.out).1
        refine run_appM (P := Tryz.prog) (show opAt (opsOf Tryz.f58 1) 5 = some (some 10, .call { callee := .builtin .append, args := [(.tmp 7), (.tmp 9)].toArray, argTypes := [29, 29].toArray }, none) from by kernel_rfl) (by kernel_rfl) (by kernel_rfl) (by kernel_rfl) ai items.length ci (by kernel_rfl) W0.heap.size ieI _ 3 32 Tryz.underlying29 hieI.1 hieI.2.1 hieI.2.2.1 hieI.2.2.2 rfl (by decide) 0 [] KE.out (fun _ => rfl) (itCells items) (itCells_len _) (NI.out _ H.out.1) (itCells_one items) (by unfold maxLen; omega) (by omega) H.out.1.size (fun v' W5 hO hg hwh => ?_)
        rw [Nat.zero_add, List.nil_append] at hO
        obtain ⟨sa, c, rfl⟩ := row_formS hO
        have NV := Lib.hid (⟨(hg.block _ (Array.getElem?_eq_some_iff.1 NV.out.out).1 (fun e => NE.out (Option.some.inj (show some n7 = some n2 from e)).symm)).trans NV.out.out⟩ : NewB n7 32 #[.int .i64 0, .slice none 0 0, .slice none 0 0, .slice none 0 0, .slice none 0 0, .slice none 0 0, .int .i64 0, .int .i64 0] W5)
        have NE := Lib.hid (fun e => by rcases hwh with q | q <;> (rw [q] at e; first | exact NE.out (Option.some.inj (show some n2 = some n7 from e)) | (have := LT7.out; have := Option.some.inj e; omega)) : (Value.slice sa items.length c).ownBlock ≠ some n7)
        have HG := Lib.hid (heldC_grown H.out hg (fun k hk => ⟨(KE.out.lt k hk).1, fun q hq => by obtain rfl := List.mem_singleton.1 hq; have := (KE.out.lt k hk).1; have := SW0.out; simp only; omega⟩))
        refine ⟨HG.out, ?_⟩
        have H := HG
        have RW := Lib.hid hO
        clear HG hO hg hwh KE
        refine run_bldI (k := kk) (sa := sa) (n := items.length) (m := c) (show opAt (opsOf Tryz.f58 1) 6 = some (some 11, .build 32 #[(0, (.tmp 6)), (1, (.tmp 10))], none) from by kernel_rfl) (by kernel_rfl) (by kernel_rfl) (by kernel_rfl) (by kernel_rfl) ?_
        refine run_last (by kernel_rfl) (show opAt (opsOf Tryz.f58 1) 8 = some (none, .store 32 (.tmp 3) (.tmp 11), none) from by kernel_rfl) (by kernel_rfl) (by kernel_rfl) (by kernel_rfl) (store_vec8 NV.out.out (show (#[.int .i64 kk, .slice sa items.length c, .slice none 0 0, .slice none 0 0, .slice none 0 0, .slice none 0 0, .int .i64 0, .int .i64 0] : Array Value).all (·.oneCell') = true from by simp [Value.oneCell'])) ?_
        refine run_done ?_
        simp only [putAll, Act.put, List.setIfInBounds_toArray, List.set_cons_zero, List.set_cons_succ]
        have PU := Lib.hid (plnU_end (kk := kk) NV.out.out RW.out NE.out GV.out H.out.1)
        clear NV RW NE GV H
        go_wp2_with fail
        go_meet
        exact ⟨n7, sa, c, rfl, PU.out⟩
    · refine run_new (C := #[.int .i64 0, .slice none 0 0, .slice none 0 0, .slice none 0 0, .slice none 0 0, .slice none 0 0, .int .i64 0, .int .i64 0]) (show opAt (opsOf Tryz.f58 1) 7 = some (some 3, .alloc 32, none) from by kernel_rfl) (by kernel_rfl) (by kernel_rfl) new_vec (fun W7 n7 hW7 hn7 => ?_)
      subst hW7
      have NV := Lib.hid (⟨blk_new _ _ hn7⟩ : NewB n7 32 #[.int .i64 0, .slice none 0 0, .slice none 0 0, .slice none 0 0, .slice none 0 0, .slice none 0 0, .int .i64 0, .int .i64 0] _)
      have GV := Lib.hid (by rw [hn7]; exact H.out.1.size : W0.heap.size ≤ n7)
      refine ⟨heldC_call H.out (below1 _ (.cells #[.int .i64 0, .slice none 0 0, .slice none 0 0, .slice none 0 0, .slice none 0 0, .slice none 0 0, .int .i64 0, .int .i64 0] 32)), ?_⟩
      have H := Lib.hid (heldC_call H.out (below1 _ (.cells #[.int .i64 0, .slice none 0 0, .slice none 0 0, .slice none 0 0, .slice none 0 0, .slice none 0 0, .int .i64 0, .int .i64 0] 32)))
      clear hn7
      refine run_mk0I (show opAt (opsOf Tryz.f58 1) 2 = some (some 7, .buildSlice 29 0 #[], none) from by kernel_rfl) (by kernel_rfl) (by kernel_rfl) (fun W2 n2 hW2 hn2 => ?_)
      subst hW2
      have KE := Lib.hid (show (_ : World).ownsRow W0.heap.size 62 3 (.slice (some ⟨n2, 0, none⟩) 0 0) 0 [] from ⟨by simp, .inr ⟨n2, 0, #[], rfl, by rw [hn2]; exact H.out.1.size, blk_new _ _ hn2, Nat.le_refl _, Nat.zero_le _, by simp, by simp⟩⟩)
      have NE := Lib.hid (by rw [hn2]; exact Nat.ne_of_gt (Array.getElem?_eq_some_iff.1 NV.out.out).1 : n2 ≠ n7)
      have NV := Lib.hid (NV.out.keep (below1 _ (.cells #[] 62)))
      refine ⟨heldC_call H.out (below1 _ (.cells #[] 62)), ?_⟩
      have H := Lib.hid (heldC_call H.out (below1 _ (.cells #[] 62)))
      clear hn2
      have LT7 := Lib.hid (Array.getElem?_eq_some_iff.1 NV.out.out).1
      refine run_appM (P := Tryz.prog) (show opAt (opsOf Tryz.f58 1) 5 = some (some 10, .call { callee := .builtin .append, args := [(.tmp 7), (.tmp 9)].toArray, argTypes := [29, 29].toArray }, none) from by kernel_rfl) (by kernel_rfl) (by kernel_rfl) (by kernel_rfl) ai items.length ci (by kernel_rfl) W0.heap.size ieI _ 3 32 Tryz.underlying29 hieI.1 hieI.2.1 hieI.2.2.1 hieI.2.2.2 rfl (by decide) 0 [] KE.out (fun _ => rfl) (itCells items) (itCells_len _) (NI.out _ H.out.1) (itCells_one items) (by unfold maxLen; omega) (by omega) H.out.1.size (fun v' W5 hO hg hwh => ?_)
      rw [Nat.zero_add, List.nil_append] at hO
      obtain ⟨sa, c, rfl⟩ := row_formS hO
      have NV := Lib.hid (⟨(hg.block _ (Array.getElem?_eq_some_iff.1 NV.out.out).1 (fun e => NE.out (Option.some.inj (show some n7 = some n2 from e)).symm)).trans NV.out.out⟩ : NewB n7 32 #[.int .i64 0, .slice none 0 0, .slice none 0 0, .slice none 0 0, .slice none 0 0, .slice none 0 0, .int .i64 0, .int .i64 0] W5)
      have NE := Lib.hid (fun e => by rcases hwh with q | q <;> (rw [q] at e; first | exact NE.out (Option.some.inj (show some n2 = some n7 from e)) | (have := LT7.out; have := Option.some.inj e; omega)) : (Value.slice sa items.length c).ownBlock ≠ some n7)
      have HG := Lib.hid (heldC_grown H.out hg (fun k hk => ⟨(KE.out.lt k hk).1, fun q hq => by obtain rfl := List.mem_singleton.1 hq; have := (KE.out.lt k hk).1; have := SW0.out; simp only; omega⟩))
      refine ⟨HG.out, ?_⟩
      have H := HG
      have RW := Lib.hid hO
      clear HG hO hg hwh KE
      refine run_bldI (k := kk) (sa := sa) (n := items.length) (m := c) (show opAt (opsOf Tryz.f58 1) 6 = some (some 11, .build 32 #[(0, (.tmp 6)), (1, (.tmp 10))], none) from by kernel_rfl) (by kernel_rfl) (by kernel_rfl) (by kernel_rfl) (by kernel_rfl) ?_
      refine run_last (by kernel_rfl) (show opAt (opsOf Tryz.f58 1) 8 = some (none, .store 32 (.tmp 3) (.tmp 11), none) from by kernel_rfl) (by kernel_rfl) (by kernel_rfl) (by kernel_rfl) (store_vec8 NV.out.out (show (#[.int .i64 kk, .slice sa items.length c, .slice none 0 0, .slice none 0 0, .slice none 0 0, .slice none 0 0, .int .i64 0, .int .i64 0] : Array Value).all (·.oneCell') = true from by simp [Value.oneCell'])) ?_
      refine run_done ?_
      simp only [putAll, Act.put, List.setIfInBounds_toArray, List.set_cons_zero, List.set_cons_succ]
      have PU := Lib.hid (plnU_end (kk := kk) NV.out.out RW.out NE.out GV.out H.out.1)
      clear NV RW NE GV H
      go_wp2_with fail
      go_meet
      exact ⟨n7, sa, c, rfl, PU.out⟩

  case rest =>
    obtain ⟨wp, rfl⟩ : ∃ u : World, u = wc := ⟨_, rfl⟩
    obtain ⟨gu, sa, c, rfl, hp⟩ := hcut
    have PU := Lib.hid hp
    have KA := Lib.hid (blk_below PU.out.below KARG0.out)
    have KR := Lib.hid (blk_below PU.out.below KR0.out)
    have HTX := Lib.hid hL
    have HIT := Lib.hid (fun (k : Nat) (hk : k < items.length) => hI.at_ hk)
    have OK := Lib.hid ok
    clear hp H NI EW hI hL ok hieI
    by_cases hl : levels.length = 0
    · have ER := Lib.hid (show vecOf (plnK kk levels) (plnL levels items) = vecOf kk items by rw [plnK_no hl, plnL_no hl])
      rw [hl] at KA ⊢
      obtain ⟨n, hn⟩ : ∃ n, items.length = n := ⟨_, rfl⟩
      rw [hn] at PU KA li ⊢
      clear hn hl KARG0 HTX HIT OK
      obtain ⟨k0, k1, k2, k3, k4, k5, k6, k7⟩ := vec8 KA.out
      go_wp2
      go_loopw [4] (fun i wr => i = .int .i64 0 ∧ wr = wp) (fun _ _ => 0)
      case atStart => exact ⟨rfl, rfl⟩
      case round =>
        obtain ⟨rfl, rfl⟩ := hrel
        obtain ⟨y0, y1, y2, y3, y4, y5, y6, y7⟩ := vec8 PU.out.blk
        obtain ⟨z0, z1, z2, z3, z4, z5, z6, z7⟩ := vec8 KR.out
        obtain ⟨f0, f1, f2, f3, f4, f5, f6, f7⟩ := free8 KR.out
        by_cases h0 : n = 0
        · subst h0
          go_wp2
          rw [ER.out]
          exact vec_end rfl rfl rfl KR.out (PU.out.fin (by have := SW0.out; omega) BW0.out)
        · have hpos : 0 < (n : Int) := by omega
          go_wp2
          rw [ER.out]
          exact vec_end rfl rfl rfl KR.out (PU.out.fin (by have := SW0.out; omega) BW0.out)
    · have ER := Lib.hid (show vecOf (plnK kk levels) (plnL levels items) = vecOf 3 (mixP levels items items.length) by rw [plnK_yes hl, mixP_full])
      have LK := Lib.hid (fun (k : Nat) (hk : k < items.length) => OK.out.its k hk)
      have TX := Lib.hid (fun (j : Nat) (hj : j < levels.length) => HTX.out j (levels.getD j ⟨#[]⟩) (by rw [List.getD_eq_getElem?_getD, List.getElem?_eq_getElem hj]; rfl))
      have PL := Lib.hid (fun (x : It) (h : ¬ x.d = 0) => pln_lev (levels := levels) (x := x) (by omega))
      have PS := Lib.hid (fun (x : It) (h : x.d = 0) => pln_same (levels := levels) (x := x) (.inl h))
      have ll := OK.out.llen
      obtain ⟨nl, hnl⟩ : ∃ nl, levels.length = nl := ⟨_, rfl⟩
      rw [hnl] at KA KARG0 TX LK hl ll ⊢
      clear hnl
      have hl0 : 0 < (nl : Int) := by omega
      obtain ⟨n, hn⟩ : ∃ n, items.length = n := ⟨_, rfl⟩
      have HN := Lib.hid hn
      rw [hn] at PU KA KARG0 li LK HIT ER ⊢
      clear hn HTX OK
      obtain ⟨k0, k1, k2, k3, k4, k5, k6, k7⟩ := vec8 KA.out
      go_wp2
      clear k0 k1 k2 k3 k4 k5 k6 k7
      go_loopw [4] (fun i wr => ∃ (k : Nat) (kc : Int), k ≤ n ∧ i = .int .i64 k ∧ PlnU W0 wr gu kc (.slice sa n c) (mixP levels items k)) (fun i _ => n - (intOf i).toNat)
      case atStart => exact ⟨0, kk, Nat.zero_le _, rfl, by rw [mixP_zero]; exact PU.out⟩
      case round =>
        obtain ⟨k, kc, hk, rfl, hp⟩ := hrel
        clear PU KA KR
        have PU := Lib.hid hp
        have KA := Lib.hid (blk_below PU.out.below KARG0.out)
        have KR := Lib.hid (blk_below PU.out.below KR0.out)
        clear hp
        obtain ⟨k0, k1, k2, k3, k4, k5, k6, k7⟩ := vec8 KA.out
        obtain ⟨y0, y1, y2, y3, y4, y5, y6, y7⟩ := vec8 PU.out.blk
        obtain ⟨e0, e1, e2, e3, e4, e5, e6, e7⟩ := free8 PU.out.blk
        have hgA : ¬ w.heap.size = gu := by have := PU.out.ge; have := SW0.out; omega
        by_cases hlt : k < n
        · obtain ⟨g, cur, rfl, -, hge, hgu, hg, q0, q1, q2⟩ := PU.out.cells (k := k) (by rw [mixP_len, HN.out]; exact hlt)
          rw [mixP_at (by rw [HN.out]; exact hlt)] at q0 q1 q2
          have KG := Lib.hid hg
          have EK := Lib.hid (fun h => mixP_same (levels := levels) (items := items) (k := k) h)
          obtain ⟨hx0, hx1⟩ := LK.out k hlt
          obtain ⟨ba, off, rfl, hbB, c0, c1, c2⟩ := HIT.out k hlt
          have EXK := Lib.hid (mixP_set (levels := levels) (items := items) (k := k) (by rw [HN.out]; exact hlt))
          obtain ⟨x, hx⟩ : ∃ x, items.getD k noI = x := ⟨_, rfl⟩
          rw [hx] at q0 q1 q2 EK hx0 hx1 c0 EXK
          have u1 : wr.cell? ⟨g, k * 3 + 1, none⟩ = some (.int .i64 x.d) := cellOf hg q1
          have PU1 := Lib.hid (PU.out.set0 (k' := 3))
          clear hg q0 q1 q2 hx c1 c2
          by_cases hd : x.d = 0
          · have PM := Lib.hid (show PlnU W0 (wr.setCell ⟨gu, 0, none⟩ (.int .i64 3)) gu 3 (.slice (some ⟨g, 0, none⟩) n c) (mixP levels items (k + 1)) from by rw [EK.out (PS.out x hd)]; exact PU1.out)
            go_wp2
            go_roundw
            case rel => first | exact ⟨k + 1, 3, by omega, by go_num, PM.out⟩ | ((repeat apply Exists.intro); exact ⟨⟨k + 1, 3, by omega, by go_num, PM.out⟩, rfl⟩)
            case measure => simp [intOf]; omega
          · obtain ⟨h1, h2, h3⟩ : x.d = 1 ∧ 1 ≤ x.n ∧ x.n ≤ (nl : Int) := by
              rcases hx1 with q | q | q
              · omega
              · exact absurd q hd
              · exact q
            obtain ⟨m, hm0⟩ : ∃ m : Nat, (x.n - 1).toNat = m := ⟨_, rfl⟩
            have hm : m < nl := by omega
            obtain ⟨bl, ol, rfl, _, hbl', hcs⟩ := TX.out m hm
            have hba : ba < w.heap.size := by omega
            have hbl : bl < w.heap.size := by omega
            have WS := Lib.hid (show IntKind.i64.wrap (x.n - 1) = (m : Int) by rw [show x.n - 1 = (m : Int) by omega]; exact wrap64_id (by omega) (by omega))
            obtain ⟨s, hs⟩ : ∃ s, levels.getD m ⟨#[]⟩ = s := ⟨_, rfl⟩
            have EX := Lib.hid (show txE s = plnI levels x by rw [PL.out x hd, hm0, hs])
            rw [hs] at hcs
            have CX := Lib.hid c0
            have CS := Lib.hid hcs
            have CT := Lib.hid (fun W => specTxtItem s W)
            clear c0 hcs hs hx0 hx1 h1 h2 h3 hm0 EK
            go_wp2
            obtain ⟨w1, hw1⟩ : ∃ W, wr.setCell ⟨gu, 0, none⟩ (.int .i64 3) = W := ⟨_, rfl⟩
            have KG := Lib.hid (show w1.heap[g]? = some (.cells cur 62 (0, 0)) from hw1 ▸ (Below.heap_setCell _ _ _ _ hgu).trans KG.out)
            have PU1 := Lib.hid (show PlnU W0 w1 gu 3 (.slice (some ⟨g, 0, none⟩) n c) (mixP levels items k) from hw1 ▸ PU1.out)
            have KA := Lib.hid (show w1.heap[w.heap.size]? = _ from hw1 ▸ (Below.heap_setCell _ _ _ _ hgA).trans KA.out)
            rw [hw1]
            clear hw1
            have H := Lib.hid (show HeldC w w1 ([(gu, 32, #[.int .i64 3, .slice (some ⟨g, 0, none⟩) n c, .slice none 0 0, .slice none 0 0, .slice none 0 0, .slice none 0 0, .int .i64 0, .int .i64 0]), (w.heap.size, 32, #[.int .i64 kk, .slice (some ⟨ba, off, none⟩) n ci, .slice ap parts.length cp, .slice an names.length cn, .slice ac cls.length cc, .slice (some ⟨bl, ol, none⟩) nl cl, .int .i64 code, .int .i64 env])]) from ⟨below_then BW0.out PU1.out.below, fun q hq => by
              simp only [List.mem_cons, List.not_mem_nil, or_false] at hq
              rcases hq with rfl | rfl
              · exact PU1.out.blk
              · exact KA.out⟩)
            refine run_region (ops := (opsOf Tryz.f58 7)) (S := fun w' => HeldC w w' ([(gu, 32, #[.int .i64 3, .slice (some ⟨g, 0, none⟩) n c, .slice none 0 0, .slice none 0 0, .slice none 0 0, .slice none 0 0, .int .i64 0, .int .i64 0]), (w.heap.size, 32, #[.int .i64 kk, .slice (some ⟨ba, off, none⟩) n ci, .slice ap parts.length cp, .slice an names.length cn, .slice ac cls.length cc, .slice (some ⟨bl, ol, none⟩) nl cl, .int .i64 code, .int .i64 env])])) [(0, true), (1, true), (2, true), (3, true), (4, true), (5, true), (6, true), (7, true), (8, true), (9, true), (10, true), (11, true), (12, true), (13, true), (14, false), (15, true), (16, false)] (by kernel_rfl) (by kernel_rfl) (by kernel_rfl) (by kernel_rfl) (by kernel_rfl) (fun _ _ _ _ _ h => h) (heldC_drew H.out) ?_
            have H := Lib.hid (heldC_drew H.out)
            have PU1 := Lib.hid (PU1.out.keep (below_drew' (Below.refl _ _)))
            have KG := Lib.hid (blk_drew KG.out)
            refine runC_partV (b := gu) (by kernel_rfl) (show opAt (opsOf Tryz.f58 7) 0 = some (some 33, .fieldAddr 32 (.tmp 3) 1, none) from by kernel_rfl) (by kernel_rfl) (by kernel_rfl) (by kernel_rfl) ?_
            refine runC_cell (b := gu) (j := 1) (v := .slice (some ⟨g, 0, none⟩) n c) load_its (show opAt (opsOf Tryz.f58 7) 1 = some (some 34, .load 29 (.tmp 33), none) from by kernel_rfl) (by kernel_rfl) (by kernel_rfl) (by kernel_rfl) (List.Mem.head _) rfl ?_
            refine run_mov (v := .int .i64 (k : Int)) (show opAt (opsOf Tryz.f58 7) 2 = some (some 35, .move (.tmp 4), none) from by kernel_rfl) (by kernel_rfl) (by kernel_rfl) (by kernel_rfl) ?_
            refine runC_partV (b := w.heap.size) (by kernel_rfl) (show opAt (opsOf Tryz.f58 7) 3 = some (some 36, .fieldAddr 32 (.tmp 1) 5, none) from by kernel_rfl) (by kernel_rfl) (by kernel_rfl) (by kernel_rfl) ?_
            refine runC_cell (b := w.heap.size) (j := 5) (v := .slice (some ⟨bl, ol, none⟩) nl cl) load_strs (show opAt (opsOf Tryz.f58 7) 4 = some (some 37, .load 24 (.tmp 36), none) from by kernel_rfl) (by kernel_rfl) (by kernel_rfl) (by kernel_rfl) (List.Mem.tail _ (List.Mem.head _)) rfl ?_
            refine runC_partV (b := w.heap.size) (by kernel_rfl) (show opAt (opsOf Tryz.f58 7) 5 = some (some 38, .fieldAddr 32 (.tmp 1) 1, none) from by kernel_rfl) (by kernel_rfl) (by kernel_rfl) (by kernel_rfl) ?_
            refine runC_cell (b := w.heap.size) (j := 1) (v := .slice (some ⟨ba, off, none⟩) n ci) load_its (show opAt (opsOf Tryz.f58 7) 6 = some (some 39, .load 29 (.tmp 38), none) from by kernel_rfl) (by kernel_rfl) (by kernel_rfl) (by kernel_rfl) (List.Mem.tail _ (List.Mem.head _)) rfl ?_
            refine run_mov (v := .int .i64 (k : Int)) (show opAt (opsOf Tryz.f58 7) 7 = some (some 40, .move (.tmp 4), none) from by kernel_rfl) (by kernel_rfl) (by kernel_rfl) (by kernel_rfl) ?_
            refine run_idx3 (n := n) (c := ci) (b := ba) (off := off) (k := k) (show opAt (opsOf Tryz.f58 7) 8 = some (some 41, .indexAddr 29 (.tmp 39) (.tmp 40), none) from by kernel_rfl) (by kernel_rfl) (by kernel_rfl) (by kernel_rfl) (by kernel_rfl) hlt ?_
            refine runC_partJ (b := ba) (o := off + k * 3) (by kernel_rfl) (show opAt (opsOf Tryz.f58 7) 9 = some (some 42, .fieldAddr 62 (.tmp 41) 0, none) from by kernel_rfl) (by kernel_rfl) (by kernel_rfl) (by kernel_rfl) ?_
            refine runC_old (b := ba) (j := off + k * 3 + 0) (v := .int .i64 x.n) load_int (show opAt (opsOf Tryz.f58 7) 10 = some (some 43, .load 3 (.tmp 42), none) from by kernel_rfl) (by kernel_rfl) (by kernel_rfl) (by kernel_rfl) hba CX.out ?_
            refine run_sub (k := .i64) (p := x.n) (q := 1) (z := (m : Int)) (show opAt (opsOf Tryz.f58 7) 11 = some (some 44, .binOp .sub 3 (.tmp 43) (.const (.int .i64 1)) 3, none) from by kernel_rfl) (by kernel_rfl) (by kernel_rfl) (by kernel_rfl) (by kernel_rfl) WS.out ?_
            refine run_idx1 (n := nl) (c := cl) (b := bl) (off := ol) (k := m) (show opAt (opsOf Tryz.f58 7) 12 = some (some 45, .indexAddr 24 (.tmp 37) (.tmp 44), none) from by kernel_rfl) (by kernel_rfl) (by kernel_rfl) (by kernel_rfl) (by kernel_rfl) hm Tryz.underlying24 (by kernel_rfl) infoStr ?_
            refine runC_old (b := bl) (j := ol + m) (v := .string s) load_text (show opAt (opsOf Tryz.f58 7) 13 = some (some 46, .load 9 (.tmp 45), none) from by kernel_rfl) (by kernel_rfl) (by kernel_rfl) (by kernel_rfl) hbl CS.out ?_
            refine run_call (args := [.string s]) (show opAt (opsOf Tryz.f58 7) 14 = some (some 47, .call { callee := .value (.func 72), args := [(.tmp 46)].toArray, argTypes := [9].toArray }, none) from by kernel_rfl) (by kernel_rfl) (by kernel_rfl) (by kernel_rfl) (by kernel_rfl) ?_
            refine (CT.out _).mono ?_
            rintro en rw1 ⟨rfl, hb⟩
            refine ⟨_, rfl, heldC_call H.out hb, ?_⟩
            have H := Lib.hid (heldC_call H.out hb)
            have PU1 := Lib.hid (PU1.out.keep hb)
            have KG := Lib.hid (blk_below hb KG.out)
            clear hb
            refine run_idx3 (n := n) (c := c) (b := g) (off := 0) (k := k) (show opAt (opsOf Tryz.f58 7) 15 = some (some 48, .indexAddr 29 (.tmp 34) (.tmp 35), none) from by kernel_rfl) (by kernel_rfl) (by kernel_rfl) (by kernel_rfl) (by kernel_rfl) hlt ?_
            have PN := Lib.hid (PU1.out.put (k := k) (z := txE s) (o := 0 + k * 3) KG.out (by rw [mixP_len, HN.out]; exact hlt) (Nat.zero_add _))
            refine run_last (by kernel_rfl) (show opAt (opsOf Tryz.f58 7) 16 = some (none, .store 62 (.tmp 48) (.tmp 47), none) from by kernel_rfl) (by kernel_rfl) (by kernel_rfl) (by kernel_rfl) (store_itemAt (x := .int .i64 0) (y := .int .i64 1) (z := .string s) KG.out PN.out.1 rfl rfl rfl) ?_
            obtain ⟨wn, hwn⟩ : ∃ W, rw1.setRow g (cur.toList.take (0 + k * 3) ++ [Value.int .i64 0, .int .i64 1, .string s] ++ cur.toList.drop (0 + k * 3 + 3)).toArray = W := ⟨_, rfl⟩
            rw [hwn]
            have PM := Lib.hid (show PlnU W0 wn gu 3 (.slice (some ⟨g, 0, none⟩) n c) (mixP levels items (k + 1)) from by have q : PlnU W0 wn gu 3 (.slice (some ⟨g, 0, none⟩) n c) ((mixP levels items k).set k (txE s)) := (by rw [← hwn]; exact PN.out.2); rw [EX.out, EXK.out] at q; exact q)
            refine run_done ?_
            simp only [putAll, Act.put, List.setIfInBounds_toArray, List.set_cons_zero, List.set_cons_succ]
            clear hwn PN PU1 KG H
            go_wp2
            go_roundw
            case rel => first | exact ⟨k + 1, 3, by omega, by go_num, PM.out⟩ | ((repeat apply Exists.intro); exact ⟨⟨k + 1, 3, by omega, by go_num, PM.out⟩, rfl⟩)
            case measure => simp [intOf]; omega
        · obtain rfl : k = n := by omega
          have PU1 := Lib.hid (PU.out.set0 (k' := 3))
          have hlA := (Array.getElem?_eq_some_iff.1 KA.out).1
          have hgr : ¬ w.heap.size + 1 = gu := by have := PU.out.ge; have := SW0.out; omega
          have KR1 := Lib.hid (show (wr.setCell ⟨gu, 0, none⟩ (.int .i64 3)).heap[w.heap.size + 1]? = _ from (Below.heap_setCell _ _ _ _ hgr).trans KR.out)
          obtain ⟨z0, z1, z2, z3, z4, z5, z6, z7⟩ := vec8 KR.out
          obtain ⟨f0, f1, f2, f3, f4, f5, f6, f7⟩ := free8 KR.out
          go_wp2
          rw [ER.out]
          exact vec_end rfl rfl rfl KR1.out (PU1.out.fin (by have := SW0.out; omega) BW0.out)
end Go.Proofs.YtddebgmjolojeaaGreatDoor

/- CountBytes of the reference. -/
namespace Go.Proofs.YtddebgmjolojeaaGreatDoor
open Go.RowKit
set_option maxRecDepth 100000
set_option linter.unusedVariables false

/-- An item's variable that a region has made and filled. -/
structure BoxI (wr wx : World) (g : Nat) (z : It) : Prop where
  blk : wx.heap[g]? = some (.cells #[.int .i64 z.n, .int .i64 z.d, .string z.t] 62 (0, 0))
  ge : wr.heap.size ≤ g
  below : Below wr.heap.size wr wx
end Go.Proofs.YtddebgmjolojeaaGreatDoor

/- The codes of a vector's elements: the reference. -/
namespace Go.Proofs.YtddebgmjolojeaaGreatDoor
open Go.RowKit
set_option maxRecDepth 100000
set_option linter.unusedVariables false

theorem cell_below {w w' : World} {b j : Nat} {u : Value} (hb : Below w.heap.size w w') (hlt : b < w.heap.size) (h : w.cell? ⟨b, j, none⟩ = some u) : w'.cell? ⟨b, j, none⟩ = some u := (hb.cell hlt).trans h
theorem field_txt {w : World} {z : It} : (Instr.field 62 (.agg #[.int .i64 z.n, .int .i64 z.d, .string z.t]) 2).run Tryz.prog w = .ok (.string z.t) w := by
  kernel_rfl
theorem cnv_d {k j : Int} {x : It} (h : ItOk k x) : (x.d = 0 → (cnvI k j x).d = 0) ∧ (¬ x.d = 0 → ¬ (cnvI k j x).d = 0) := by
  refine ⟨fun e => by rw [cnv_same (.inr (.inr e))]; exact e, fun e => ?_⟩
  unfold cnvI
  split
  · exact e
  · split
    · exact (by decide : ¬ (1 : Int) = 0)
    · exact (by decide : ¬ (1 : Int) = 0)
section
variable {ops : Array Oper} {Q : Exit → Act → World → Prop} {S : World → Prop}
variable {r : List (Nat × Bool)} {a : Act} {e : List (Nat × Value)} {w : World} {i d : Nat} {g : Option (Nat × Bool)}
/-- The text of an item. -/
theorem run_fldT {z : It} {x : Operand} (ho : opAt ops i = some (some d, .field 62 x 2, g)) (hd : Nat.blt d a.tmps.size = true) (hw : wantE ops a e g = some true) (hx : lookO a e x = .agg #[.int .i64 z.n, .int .i64 z.d, .string z.t])
    (h : RunE Tryz.prog ops Q S r a ((d, .string z.t) :: e) w) : RunE Tryz.prog ops Q S ((i, true) :: r) a e w :=
  run_yield ho hd hw (fun o w' h1 _ => by
    unfold execOp; rw [h1]
    simp only [hx]
    exact run_v field_txt) h
end
/-- A vector whose items have been appended to, but not yet stored. -/
structure AppM (w w0 wr : World) (b : Nat) (kind : Int) (l : List It) (sa : Option Addr) (sn sc : Nat) (sa' : Option Addr) (sn' sc' : Nat) (na : Option Addr) (nn nc : Nat) : Prop where
  vec : wr.heap[b]? = some (.cells #[.int .i64 kind, .slice sa sn sc, .slice none 0 0, .slice na nn nc, .slice none 0 0, .slice none 0 0, .int .i64 0, .int .i64 0] 32 (0, 0))
  row : wr.ownsRow w0.heap.size 62 3 (.slice sa' sn' sc') l.length (itCells l)
  kept : ∀ g, g < w0.heap.size → g ≠ b → wr.heap[g]? = w0.heap[g]?
  size : w0.heap.size ≤ wr.heap.size
  below : Below w.heap.size w wr
  lt : b < w0.heap.size
  ge : w.heap.size ≤ b
theorem AppM.store {w w0 wr : World} {b : Nat} {kind : Int} {l : List It} {sa sa' : Option Addr} {sn sc sn' sc' : Nat} {na : Option Addr} {nn nc : Nat} (h : AppM w w0 wr b kind l sa sn sc sa' sn' sc' na nn nc) : AppK w w0 (wr.setCell ⟨b, 1, none⟩ (.slice sa' sn' sc')) b kind l sa' sn' sc' na nn nc := by
  have hk : ∀ g, g ≠ b → (wr.setCell ⟨b, 1, none⟩ (.slice sa' sn' sc')).heap[g]? = wr.heap[g]? := fun g hg => Below.heap_setCell _ _ _ _ hg
  refine ⟨?_, ownsRow_kept h.row (fun j hj => hk j (by have := (h.row.lt j hj).1; have := h.lt; omega)), fun g hg hn => (hk g hn).trans (h.kept g hg hn), by have := h.size; simp; exact this, h.below.setCell (show w.heap.size ≤ b from h.ge) _, h.lt, h.ge⟩
  exact blk_set (i := 1) h.vec _
theorem wpList_appK {w w0 wr : World} {b : Nat} {kind : Int} {l : List It} {sa : Option Addr} {sn sc : Nat} {na : Option Addr} {nn nc : Nat} {ops : Array Oper} {rest : List Oper} {o : Oper} {a : Act} {Q : Exit → Act → World → Prop} (hgd : o.guard = none) (s x : Operand)
    (ho : o.op = .call { callee := .builtin .append, args := #[s, x], argTypes := #[29, 29] }) (z : It) (h : AppK w w0 wr b kind l sa sn sc na nn nc) (g : Nat) (hs : a.eval s = .slice sa sn sc) (hx : a.eval x = .slice (some ⟨g, 0, none⟩) 1 1)
    {W : World} (hW : W = wr.alloc (.cells #[.int .i64 z.n, .int .i64 z.d, .string z.t] 62)) (hg : g = wr.heap.size) (hn : l.length ≤ 1048576)
    (hK : ∀ sa' sn' sc' w', AppM w w0 w' b kind (l ++ [z]) sa sn sc sa' sn' sc' na nn nc → wpList Tryz.prog ops Q rest (a.put o.dst (.slice sa' sn' sc')) w') : wpList Tryz.prog ops Q (o :: rest) a W := by
  obtain ⟨i0, hi0, hz0, hz1, hz2⟩ := info_parts infoItm3
  have h' := h.keep (hW ▸ below1 wr _ : Below wr.heap.size wr W)
  have hb : W.heap[g]? = some (.cells #[.int .i64 z.n, .int .i64 z.d, .string z.t] 62 (0, 0)) := by rw [hW]; exact blk_new _ _ hg
  refine wpList_append_own W hgd s x 29 ho w0.heap.size 62 i0 _ 3 32 Tryz.underlying29 hi0 hz0 hz1 hz2 rfl (by decide) _ l.length (itCells l) hs h'.row ⟨g, 0, none⟩ 1 1 (itCells [z]) hx rfl (fun j u hj => ?_) (itCells_one _) (by unfold maxLen; omega) (by omega) h'.size (fun v' w' h1 h2 _ => ?_)
  · have hlt : j < 3 := by have := (List.getElem?_eq_some_iff.1 hj).1; simpa [itCells] using this
    rw [addr_add, Nat.zero_add]
    exact cellOf hb (by simpa [itCells] using hj)
  · have h1' : w'.ownsRow w0.heap.size 62 3 v' (l ++ [z]).length (itCells (l ++ [z])) := by rw [itCells_app, List.length_append]; exact h1
    obtain ⟨sa', sn', e⟩ : ∃ sa' sn' , ∃ sc', v' = .slice sa' sn' sc' := by
      obtain ⟨a', c', _, e, _⟩ := own_of_its h1'
      exact ⟨a', _, c', e⟩
    obtain ⟨sc', rfl⟩ := e
    have far : ∀ k, (Value.slice sa sn sc).ownBlock = some k → w0.heap.size ≤ k := fun k hk => (h'.row.lt k hk).1
    refine hK sa' sn' sc' w' ⟨(h2.block b (Nat.lt_of_lt_of_le h'.lt h'.size) (fun e => by have := far b e.symm; have := h'.lt; omega)).trans h'.vec, h1', fun k hk hne => (h2.block k (Nat.lt_of_lt_of_le hk h'.size) (fun e => by have := far k e.symm; omega)).trans (h'.kept k hk hne), Nat.le_trans h'.size h2.size, h'.below.grown h2 h'.below.size (fun r hr => by have := far r hr; have := h'.lt; have := h'.ge; omega), h'.lt, h'.ge⟩
set_option maxHeartbeats 8000000 in
theorem specCodes (d : Nat) (kk : Int) (items : List It) (parts : List Vec) (names cls levels : List ByteArray) (code env : Int) (val : Value) (lo hi : Nat) (w : World) (hv : VecAt lo hi w d (.mk kk items parts names cls levels code env) val) (hhi : hi ≤ w.heap.size) (ok : AtmOk kk items levels) (la : Option Addr) (lc : Nat) (lv : List ByteArray) (hT : TextsAt lo hi w la lv) (hlen : lv.length ≤ 1048576) :
    Calls Tryz.prog 44 #[val, .slice la lv.length lc] w (ResV 1 (vecOf 2 (codL lv (txsL kk items levels))) w) := by
  have CP := Lib.hid (fun (W : World) (hb : Below w.heap.size w W) => specPlain d kk items parts names cls levels code env val lo hi W (hv.below hb hhi) (Nat.le_trans hhi hb.size) ok)
  obtain ⟨d', ai, ci, ap, cp, an, cn, ac, cc, al, cl, ed, rfl, hI, hN, hC, hL, hP⟩ := vecAt_open hv
  have CF := Lib.hid (fun (W : World) (hb : Below w.heap.size w W) (s : ByteArray) => (by exact specFindAt s la lv.length lc (txtS lv) hi W (hT.below hb hhi).strs (by omega) : Calls Tryz.prog 59 #[.slice la lv.length lc, .string s] W fun e w' => e = .returned (.int .i64 (atF lv s)) ∧ W = w'))
  have XV := Lib.hid (show vecOf 2 (codL lv (txsL kk items levels)) = mkN 2 (itF (fun i => codI lv (cnvI (plnK kk levels) 3 ((plnL levels items).getD i noI))) items.length) [] from by
    unfold codL
    rw [txsL_len]; show vecOf 2 _ = vecOf 2 _; congr 1; unfold itF; exact List.map_congr_left (fun i hi => by rw [txsL, cnvL_at (by rw [plnL_len]; exact List.mem_range.1 hi)]))
  obtain ⟨RV, hRV⟩ : ∃ y, vecOf 2 (codL lv (txsL kk items levels)) = y := ⟨_, rfl⟩
  rw [hRV] at XV ⊢
  have hpk := ok.pk
  have PI := Lib.hid (fun (i : Nat) (hi : i < items.length) => ok.pln hi)
  have hl := ok.len
  have hXl := plnL_len levels items
  obtain ⟨X, hX⟩ : ∃ X, plnL levels items = X := ⟨_, rfl⟩
  obtain ⟨K, hK⟩ : ∃ K, plnK kk levels = K := ⟨_, rfl⟩
  rw [hX] at CP XV PI hXl
  rw [hK] at CP XV PI hpk
  have NL := Lib.hid (fun W n => specNum2 n W)
  have ZI := Lib.hid (fun s => atF_in lv s)
  obtain ⟨nl, hnl⟩ : ∃ nl, lv.length = nl := ⟨_, rfl⟩
  rw [hnl] at CF ZI hlen ⊢
  clear hv hI hN hC hL hP ed hX hK hT hnl hRV ok
  go_enter Tryz.func44, Tryz.ntmps44
  go_wp2_with fail
  obtain ⟨w1, hw1⟩ : ∃ W, ((w.alloc (.cells #[.int .i64 kk, .slice ai items.length ci, .slice ap parts.length cp, .slice an names.length cn, .slice ac cls.length cc, .slice al levels.length cl, .int .i64 code, .int .i64 env] 32)).alloc (.cells #[.int .i64 0, .slice none 0 0, .slice none 0 0, .slice none 0 0, .slice none 0 0, .slice none 0 0, .int .i64 0, .int .i64 0] 32)).alloc (.cells #[.int .i64 2, .slice none 0 0, .slice none 0 0, .slice none 0 0, .slice none 0 0, .slice none 0 0, .int .i64 0, .int .i64 0] 32) = W := ⟨_, rfl⟩
  have hsz : (w.alloc (.cells #[.int .i64 kk, .slice ai items.length ci, .slice ap parts.length cp, .slice an names.length cn, .slice ac cls.length cc, .slice al levels.length cl, .int .i64 code, .int .i64 env] 32)).heap.size = w.heap.size + 1 := by simp
  have hsz2 : ((w.alloc (.cells #[.int .i64 kk, .slice ai items.length ci, .slice ap parts.length cp, .slice an names.length cn, .slice ac cls.length cc, .slice al levels.length cl, .int .i64 code, .int .i64 env] 32)).alloc (.cells #[.int .i64 0, .slice none 0 0, .slice none 0 0, .slice none 0 0, .slice none 0 0, .slice none 0 0, .int .i64 0, .int .i64 0] 32)).heap.size = w.heap.size + 1 + 1 := by simp
  have B1 := Lib.hid (show Below w.heap.size w w1 from hw1 ▸ ((below1 w _).alloc (by simp) _).alloc (by simp; omega) _)
  have KR := Lib.hid (show w1.heap[w.heap.size + 1]? = some (.cells #[.int .i64 0, .slice none 0 0, .slice none 0 0, .slice none 0 0, .slice none 0 0, .slice none 0 0, .int .i64 0, .int .i64 0] 32 (0, 0)) from hw1 ▸ blk_old (hsz ▸ blk_new (w.alloc (.cells #[.int .i64 kk, .slice ai items.length ci, .slice ap parts.length cp, .slice an names.length cn, .slice ac cls.length cc, .slice al levels.length cl, .int .i64 code, .int .i64 env] 32)) (.cells #[.int .i64 0, .slice none 0 0, .slice none 0 0, .slice none 0 0, .slice none 0 0, .slice none 0 0, .int .i64 0, .int .i64 0] 32) rfl))
  have KB := Lib.hid (show w1.heap[w.heap.size + 1 + 1]? = some (.cells #[.int .i64 2, .slice none 0 0, .slice none 0 0, .slice none 0 0, .slice none 0 0, .slice none 0 0, .int .i64 0, .int .i64 0] 32 (0, 0)) from hw1 ▸ hsz2 ▸ blk_new ((w.alloc (.cells #[.int .i64 kk, .slice ai items.length ci, .slice ap parts.length cp, .slice an names.length cn, .slice ac cls.length cc, .slice al levels.length cl, .int .i64 code, .int .i64 env] 32)).alloc (.cells #[.int .i64 0, .slice none 0 0, .slice none 0 0, .slice none 0 0, .slice none 0 0, .slice none 0 0, .int .i64 0, .int .i64 0] 32)) (.cells #[.int .i64 2, .slice none 0 0, .slice none 0 0, .slice none 0 0, .slice none 0 0, .slice none 0 0, .int .i64 0, .int .i64 0] 32) rfl)
  have Z1 := Lib.hid (show w1.heap.size = w.heap.size + 1 + 1 + 1 from hw1 ▸ (by simp))
  rw [hw1]
  clear hw1 hsz hsz2
  with_reducible refine (CP.out _ B1.out).mono ?_
  rintro e w3 ⟨y, rfl, ho, b⟩
  have hv3 := ho.vatL (Nat.le_refl _) (Nat.le_refl _)
  obtain ⟨d3, bi, di, bp, dp, bn, dn, bc, dc, bl, dl, ed, rfl, hI, _⟩ := vecAt_open (show VecAt w1.heap.size w3.heap.size w3 1 (.mk K X [] [] [] [] 0 0) y from hv3)
  rw [hXl]
  have HX := Lib.hid hI
  have B3 := Lib.hid (below_then B1.out b)
  have S3 := Lib.hid b.size
  have KR := Lib.hid (blk_below b KR.out)
  have KB := Lib.hid (blk_below b KB.out)
  clear b hv3 ed hI ho CP
  simp only [List.length_nil]
  obtain ⟨n, hn⟩ : ∃ n, items.length = n := ⟨_, rfl⟩
  rw [hn] at hl PI XV hXl ⊢
  clear hn
  obtain ⟨w0, hw0⟩ : ∃ W, w3.alloc (.cells #[.int .i64 K, .slice bi n di, .slice bp 0 dp, .slice bn 0 dn, .slice bc 0 dc, .slice bl 0 dl, .int .i64 0, .int .i64 0] 32) = W := ⟨_, rfl⟩
  have b0 : Below w3.heap.size w3 w0 := hw0 ▸ below1 w3 _
  have KY := Lib.hid (show w0.heap[w3.heap.size]? = some (.cells #[.int .i64 K, .slice bi n di, .slice bp 0 dp, .slice bn 0 dn, .slice bc 0 dc, .slice bl 0 dl, .int .i64 0, .int .i64 0] 32 (0, 0)) from hw0 ▸ blk_new w3 _ rfl)
  have B0 := Lib.hid (below_then B3.out b0)
  have KR := Lib.hid (blk_below b0 KR.out)
  have KB := Lib.hid (blk_below b0 KB.out)
  have HX := Lib.hid (HX.out.below b0 (Nat.le_refl _))
  have S0 := Lib.hid b0.size
  have EW0 := Lib.hid hw0
  clear b0 hw0
  go_wp2
  rw [EW0.out]
  obtain ⟨yb, hyb⟩ : ∃ yb, w3.heap.size = yb := ⟨_, rfl⟩
  have hS3 := S3.out
  have hS0 := S0.out
  have hZ1 := Z1.out
  rw [hyb] at KY HX hS3 hS0 ⊢
  obtain ⟨b, hb⟩ : ∃ b, w.heap.size + 1 + 1 = b := ⟨_, rfl⟩
  rw [hb] at KB ⊢
  have hyl := (Array.getElem?_eq_some_iff.1 KY.out).1
  have hby : b < yb := by omega
  have hrb : w.heap.size + 1 < b := by omega
  have hwb : w.heap.size ≤ b := by omega
  have hb1 : b < w1.heap.size := by omega
  clear hyb EW0 S3 S0 Z1
  have ST := Lib.hid (show AppK w w0 w0 b 2 (itF (fun i => codI lv (cnvI K 3 (X.getD i noI))) 0) none 0 0 none 0 0 from AppK.start KB.out B0.out hwb)
  have AI := Lib.hid (fun (k : Nat) (wr : World) (hk : k < n) (hk' : ∀ g, g < w0.heap.size → g ≠ b → wr.heap[g]? = w0.heap[g]?) => HX.out.loopK (.inl (by omega)) (by omega) hk' (by rw [hXl]; exact hk))
  have CI := Lib.hid (fun (k : Nat) (hk : k < n) (wr : World) (W : World) (hb : Below wr.heap.size wr W) => specCnv K 3 (X.getD k noI) W (PI.out k hk) hpk.1 hpk.2.1 (Int.le_refl _))
  have OKZ := Lib.hid (fun (k : Nat) (hk : k < n) => cnv_ok (j := 3) (PI.out k hk) hpk.2.1 (Int.le_refl _))
  have DZ := Lib.hid (fun (k : Nat) (hk : k < n) => cnv_d (j := 3) (PI.out k hk))
  clear HX PI hpk hb
  go_loopw [7] (fun i wr => ∃ (k : Nat) (sa : Option Addr) (sn sc : Nat), k ≤ n ∧ i = .int .i64 k ∧ AppK w w0 wr b 2 (itF (fun i => codI lv (cnvI K 3 (X.getD i noI))) k) sa sn sc none 0 0) (fun i _ => n - (intOf i).toNat)
  case atStart => exact ⟨0, none, 0, 0, Nat.zero_le _, rfl, ST.out⟩
  case round =>
    obtain ⟨k, sa, sn, sc, hk, rfl, hap⟩ := hrel
    have AP := Lib.hid hap
    have KYr := Lib.hid (hap.blk KY.out (by omega))
    clear hap
    obtain ⟨y0, y1, y2, y3, y4, y5, y6, y7⟩ := vec8 KYr.out
    by_cases hlt : k < n
    · obtain ⟨ba, off, rfl, hbB, c0, c1, c2⟩ := AI.out k wr hlt AP.out.kept
      have CK := Lib.hid (fun W hb => CI.out k hlt wr W hb)
      have OZ := Lib.hid (OKZ.out k hlt)
      have DK := DZ.out k hlt
      have NX := Lib.hid (itF_succ (fun i => codI lv (cnvI K 3 (X.getD i noI))) k)
      obtain ⟨y, hy⟩ : ∃ y : It, cnvI K 3 (X.getD k noI) = y := ⟨_, rfl⟩
      rw [hy] at CK NX OZ DK
      obtain ⟨x, hx⟩ : ∃ x : It, X.getD k noI = x := ⟨_, rfl⟩
      rw [hx] at c0 c1 c2 CK DK
      have C0 := Lib.hid c0
      have C1 := Lib.hid c1
      have C2 := Lib.hid c2
      have LN := Lib.hid (show (itF (fun i => codI lv (cnvI K 3 (X.getD i noI))) k).length ≤ 1048576 by rw [itF_len]; omega)
      have hbw : ba < wr.heap.size := Nat.lt_of_lt_of_le hbB AP.out.size
      clear hx hy c0 c1 c2
      go_wp2
      have H := Lib.hid (show HeldC wr wr ([(yb, 32, #[.int .i64 K, .slice (some ⟨ba, off, none⟩) n di, .slice bp 0 dp, .slice bn 0 dn, .slice bc 0 dc, .slice bl 0 dl, .int .i64 0, .int .i64 0])]) from ⟨Below.refl _ _, fun q hq => by obtain rfl := List.mem_singleton.1 hq; exact KYr.out⟩)
      refine run_region (ops := (opsOf Tryz.f44 6)) (S := fun w' => HeldC wr w' ([(yb, 32, #[.int .i64 K, .slice (some ⟨ba, off, none⟩) n di, .slice bp 0 dp, .slice bn 0 dn, .slice bc 0 dc, .slice bl 0 dl, .int .i64 0, .int .i64 0])])) [(0, true), (1, true), (2, true), (3, true), (4, true), (5, true), (6, true), (7, true), (8, false), (9, true), (10, false), (11, true)] (by kernel_rfl) (by kernel_rfl) (by kernel_rfl) (by kernel_rfl) (by kernel_rfl) (fun _ _ _ _ _ h => h) (heldC_drew H.out) ?_
      have H := Lib.hid (heldC_drew H.out)
      have AP := Lib.hid (AP.out.keep (below_drew' (Below.refl _ _)))
      refine run_mov (v := .slice la nl lc) (show opAt (opsOf Tryz.f44 6) 0 = some (some 19, .move (.tmp 1), none) from by kernel_rfl) (by kernel_rfl) (by kernel_rfl) (by kernel_rfl) ?_
      refine runC_partV (b := yb) (by kernel_rfl) (show opAt (opsOf Tryz.f44 6) 1 = some (some 20, .fieldAddr 32 (.tmp 6) 0, none) from by kernel_rfl) (by kernel_rfl) (by kernel_rfl) (by kernel_rfl) ?_
      refine runC_cell (b := yb) (j := 0) (v := .int .i64 K) load_int (show opAt (opsOf Tryz.f44 6) 2 = some (some 21, .load 3 (.tmp 20), none) from by kernel_rfl) (by kernel_rfl) (by kernel_rfl) (by kernel_rfl) (List.Mem.head _) rfl ?_
      refine runC_partV (b := yb) (by kernel_rfl) (show opAt (opsOf Tryz.f44 6) 3 = some (some 22, .fieldAddr 32 (.tmp 6) 1, none) from by kernel_rfl) (by kernel_rfl) (by kernel_rfl) (by kernel_rfl) ?_
      refine runC_cell (b := yb) (j := 1) (v := .slice (some ⟨ba, off, none⟩) n di) load_its (show opAt (opsOf Tryz.f44 6) 4 = some (some 23, .load 29 (.tmp 22), none) from by kernel_rfl) (by kernel_rfl) (by kernel_rfl) (by kernel_rfl) (List.Mem.head _) rfl ?_
      refine run_mov (v := .int .i64 (k : Int)) (show opAt (opsOf Tryz.f44 6) 5 = some (some 24, .move (.tmp 7), none) from by kernel_rfl) (by kernel_rfl) (by kernel_rfl) (by kernel_rfl) ?_
      refine run_idx3 (n := n) (c := di) (b := ba) (off := off) (k := k) (show opAt (opsOf Tryz.f44 6) 6 = some (some 25, .indexAddr 29 (.tmp 23) (.tmp 24), none) from by kernel_rfl) (by kernel_rfl) (by kernel_rfl) (by kernel_rfl) (by kernel_rfl) hlt ?_
      refine runC_oldI (b := ba) (j := off + k * 3) (z := x) (show opAt (opsOf Tryz.f44 6) 7 = some (some 26, .load 62 (.tmp 25), none) from by kernel_rfl) (by kernel_rfl) (by kernel_rfl) (by kernel_rfl) hbw C0.out C1.out C2.out ?_
      refine run_call (args := [.int .i64 K, .int .i64 3, .agg #[.int .i64 x.n, .int .i64 x.d, .string x.t]]) (show opAt (opsOf Tryz.f44 6) 8 = some (some 27, .call { callee := .value (.func 60), args := [(.tmp 21), (.const (.int .i64 3)), (.tmp 26)].toArray, argTypes := [3, 3, 62].toArray }, none) from by kernel_rfl) (by kernel_rfl) (by kernel_rfl) (by kernel_rfl) (by kernel_rfl) ?_
      refine (CK.out _ H.out.1).mono ?_
      rintro en rw1 ⟨rfl, hb⟩
      refine ⟨_, rfl, heldC_call H.out hb, ?_⟩
      have H := Lib.hid (heldC_call H.out hb)
      have AP := Lib.hid (AP.out.keep hb)
      have CX0 := Lib.hid (cell_below hb hbw C0.out)
      have CX1 := Lib.hid (cell_below hb hbw C1.out)
      clear hb
      refine run_fldT (z := y) (show opAt (opsOf Tryz.f44 6) 9 = some (some 28, .field 62 (.tmp 27) 2, none) from by kernel_rfl) (by kernel_rfl) (by kernel_rfl) (by kernel_rfl) ?_
      refine run_call (args := [.slice la nl lc, .string y.t]) (show opAt (opsOf Tryz.f44 6) 10 = some (some 29, .call { callee := .value (.func 59), args := [(.tmp 19), (.tmp 28)].toArray, argTypes := [24, 9].toArray }, none) from by kernel_rfl) (by kernel_rfl) (by kernel_rfl) (by kernel_rfl) (by kernel_rfl) ?_
      refine (CF.out _ AP.out.below y.t).mono ?_
      rintro en rw2 ⟨rfl, rfl⟩
      refine ⟨_, rfl, H.out, ?_⟩
      refine run_asg (v := .int .i64 (atF lv y.t)) (show opAt (opsOf Tryz.f44 6) 11 = some (some 8, .assign (.tmp 29), none) from by kernel_rfl) (by kernel_rfl) (by kernel_rfl) (by kernel_rfl) ?_
      refine run_done ?_
      simp only [putAll, Act.put, List.setIfInBounds_toArray, List.set_cons_zero, List.set_cons_succ]
      have KY1 := Lib.hid (heldC_at H.out (List.Mem.head _))
      have hbw1 : ba < rw1.heap.size := Nat.lt_of_lt_of_le hbw H.out.1.size
      clear H KYr CK y0 y1 y2 y3 y4 y5 y6 y7 C0 C1 C2
      obtain ⟨y0, y1, y2, y3, y4, y5, y6, y7⟩ := vec8 KY1.out
      have c1 := CX1.out
      by_cases hd : x.d = 0
      · have EZ := codI_no (lv := lv) (x := y) (.inl (DK.1 hd))
        rw [EZ] at NX
        clear EZ DK
        rw [hd] at c1
        clear CX0 CX1 hd
        have KBv := Lib.hid AP.out.vec
        obtain ⟨a0, a1, a2, a3, a4, a5, a6, a7⟩ := vec8 KBv.out
        go_wp2_with (at_builtin; go_loud (refine wpList_appK rfl _ _ rfl noI AP.out _ rfl rfl rfl rfl LN.out ?_))
        rintro sa' sn' sc' w4 hm
        clear a0 a1 a2 a3 a4 a5 a6 a7 y0 y1 y2 y3 y4 y5 y6 y7 c1
        have AM := Lib.hid hm
        have AV := Lib.hid hm.vec
        obtain ⟨v0, v1, v2, v3, v4, v5, v6, v7⟩ := vec8 AV.out
        obtain ⟨f0, f1, f2, f3, f4, f5, f6, f7⟩ := free8 AV.out
        have AN := Lib.hid AM.out.store
        clear hm
        go_wp2
        go_roundw
        case rel => first | exact ⟨k + 1, sa', sn', sc', by omega, by go_num, NX.out ▸ AN.out⟩ | ((repeat apply Exists.intro); exact ⟨⟨k + 1, sa', sn', sc', by omega, by go_num, NX.out ▸ AN.out⟩, rfl⟩)
        case measure => simp [intOf]; omega
      · have hdb : (x.d == 0) = false := beq_eq_false_iff_ne.2 hd
        have zi := ZI.out y.t
        by_cases hz : atF lv y.t < 0
        · have EZ := codI_no (lv := lv) (x := y) (.inr hz)
          rw [EZ] at NX
          obtain ⟨q, hq⟩ : ∃ q, atF lv y.t = q := ⟨_, rfl⟩
          rw [hq] at hz ⊢
          clear EZ DK CX0 CX1 hq
          have KBv := Lib.hid AP.out.vec
          obtain ⟨a0, a1, a2, a3, a4, a5, a6, a7⟩ := vec8 KBv.out
          go_wp2_with (at_builtin; go_loud (refine wpList_appK rfl _ _ rfl noI AP.out _ rfl rfl rfl rfl LN.out ?_))
          rintro sa' sn' sc' w4 hm
          clear a0 a1 a2 a3 a4 a5 a6 a7 y0 y1 y2 y3 y4 y5 y6 y7 c1
          have AM := Lib.hid hm
          have AV := Lib.hid hm.vec
          obtain ⟨v0, v1, v2, v3, v4, v5, v6, v7⟩ := vec8 AV.out
          obtain ⟨f0, f1, f2, f3, f4, f5, f6, f7⟩ := free8 AV.out
          have AN := Lib.hid AM.out.store
          clear hm
          go_wp2
          go_roundw
          case rel => first | exact ⟨k + 1, sa', sn', sc', by omega, by go_num, NX.out ▸ AN.out⟩ | ((repeat apply Exists.intro); exact ⟨⟨k + 1, sa', sn', sc', by omega, by go_num, NX.out ▸ AN.out⟩, rfl⟩)
          case measure => simp [intOf]; omega
        · have EZ := codI_yes (lv := lv) (x := y) (by have := DK.2 hd; omega)
          rw [EZ] at NX
          obtain ⟨q, hq⟩ : ∃ q, atF lv y.t = q := ⟨_, rfl⟩
          rw [hq] at hz zi NX ⊢
          have WQ := Lib.hid (show IntKind.i64.wrap (q + 1) = q + 1 from wrap64_id (by omega) (by omega))
          have CL2 := Lib.hid (fun (W : World) (_ : Below w.heap.size w W) => NL.out W (q + 1))
          clear EZ DK CX0 CX1 hq
          go_upto_region 9 with (fail)
          have H := Lib.hid (show HeldC w rw1 ([(b, 32, #[.int .i64 2, .slice sa sn sc, .slice none 0 0, .slice none 0 0, .slice none 0 0, .slice none 0 0, .int .i64 0, .int .i64 0])]) from heldC_one AP.out.below AP.out.vec)
          have FAR := Lib.hid (fun (q : Nat × TypeId × Array Value) (hq : q ∈ ([(b, 32, #[.int .i64 2, .slice sa sn sc, .slice none 0 0, .slice none 0 0, .slice none 0 0, .slice none 0 0, .int .i64 0, .int .i64 0])] : List (Nat × TypeId × Array Value))) (j : Nat) (hj : (Value.slice sa sn sc).ownBlock = some j) => (by
            obtain rfl := List.mem_singleton.1 hq
            exact AP.out.far hj (.inl AP.out.lt) : q.1 ≠ j))
          refine run_region (ops := (opsOf Tryz.f44 9)) (S := fun w' => HeldC w w' ([(b, 32, #[.int .i64 2, .slice sa sn sc, .slice none 0 0, .slice none 0 0, .slice none 0 0, .slice none 0 0, .int .i64 0, .int .i64 0])])) [(0, true), (1, true), (2, true), (3, true), (4, false), (5, false), (6, false), (7, true), (8, false)] (by kernel_rfl) (by kernel_rfl) (by kernel_rfl) (by kernel_rfl) (by kernel_rfl) (fun _ _ _ _ _ h => h) (heldC_drew H.out) ?_
          have H := Lib.hid (heldC_drew H.out)
          have AP := Lib.hid (AP.out.keep (below_drew' (Below.refl _ _)))
          refine runC_partV (b := b) (by kernel_rfl) (show opAt (opsOf Tryz.f44 9) 0 = some (some 47, .fieldAddr 32 (.tmp 5) 1, none) from by kernel_rfl) (by kernel_rfl) (by kernel_rfl) (by kernel_rfl) ?_
          refine runC_cell (b := b) (j := 1) (v := .slice sa sn sc) load_its (show opAt (opsOf Tryz.f44 9) 1 = some (some 48, .load 29 (.tmp 47), none) from by kernel_rfl) (by kernel_rfl) (by kernel_rfl) (by kernel_rfl) (List.Mem.head _) rfl ?_
          refine run_mov (v := .int .i64 q) (show opAt (opsOf Tryz.f44 9) 2 = some (some 49, .move (.tmp 8), none) from by kernel_rfl) (by kernel_rfl) (by kernel_rfl) (by kernel_rfl) ?_
          refine run_add (k := .i64) (p := q) (q := 1) (z := (q + 1)) (show opAt (opsOf Tryz.f44 9) 3 = some (some 50, .binOp .add 3 (.tmp 49) (.const (.int .i64 1)) 3, none) from by kernel_rfl) (by kernel_rfl) (by kernel_rfl) (by kernel_rfl) (by kernel_rfl) WQ.out ?_
          refine run_call (args := [.int .i64 ((q + 1))]) (show opAt (opsOf Tryz.f44 9) 4 = some (some 51, .call { callee := .value (.func 39), args := [(.tmp 50)].toArray, argTypes := [3].toArray }, none) from by kernel_rfl) (by kernel_rfl) (by kernel_rfl) (by kernel_rfl) (by kernel_rfl) ?_
          refine (CL2.out _ H.out.1).mono ?_
          rintro en rw1 ⟨rfl, hb⟩
          refine ⟨_, rfl, heldC_call H.out hb, ?_⟩
          have H := Lib.hid (heldC_call H.out hb)
          have AP := Lib.hid (AP.out.keep hb)
          clear hb
          refine tail_item2 ⟨q + 1, 1, ⟨#[]⟩⟩ (show opAt (opsOf Tryz.f44 9) 5 = some (some 52, .buildSlice 29 1 #[(0, (.tmp 51))], none) from by kernel_rfl) (by kernel_rfl) (by kernel_rfl) (show opAt (opsOf Tryz.f44 9) 6 = some (some 53, .call { callee := .builtin .append, args := [(.tmp 48), (.tmp 52)].toArray, argTypes := [29, 29].toArray }, none) from by kernel_rfl) (by kernel_rfl) (fun _ => by kernel_rfl) (show opAt (opsOf Tryz.f44 9) 7 = some (some 54, .fieldAddr 32 (.tmp 5) 1, none) from by kernel_rfl) (by kernel_rfl) (by kernel_rfl) (fun _ _ => by kernel_rfl) (show opAt (opsOf Tryz.f44 9) 8 = some (none, .store 29 (.tmp 54) (.tmp 53), none) from by kernel_rfl) (by kernel_rfl) (by kernel_rfl) H.out AP.out.row LN.out AP.out.size (Nat.le_trans AP.out.ge (Nat.le_of_lt AP.out.lt)) (List.Mem.head _) rfl AP.out.lt AP.out.ge (fun q hq => FAR.out q hq) ?_
          rintro v' w4 ⟨sa, sn, sc, rfl⟩ hK hO hB hZ hR hG
          simp only [putAll, Act.put, List.setIfInBounds_toArray, List.set_cons_zero, List.set_cons_succ]
          have AN := Lib.hid (AP.out.next hK hO hB hZ hG)
          clear hK hO hB hR hG hZ H FAR LN
          go_wp2
          go_roundw
          case rel => first | exact ⟨k + 1, sa, sn, sc, by omega, by go_num, NX.out ▸ AN.out⟩ | ((repeat apply Exists.intro); exact ⟨⟨k + 1, sa, sn, sc, by omega, by go_num, NX.out ▸ AN.out⟩, rfl⟩)
          case measure => simp [intOf]; omega
    · obtain rfl : k = n := by omega
      have K1 := Lib.hid AP.out.vec
      have K0 := Lib.hid (AP.out.blk KR.out (by omega))
      have FN := Lib.hid (AP.out.fin (r := w.heap.size + 1) (names := []) (F := []) (.inl ⟨rfl, rfl⟩) List.nodup_nil (fun g hg => by cases hg) (Nat.le_refl _) (by have := AP.out.lt; omega))
      obtain ⟨k0, k1, k2, k3, k4, k5, k6, k7⟩ := vec8 K1.out
      obtain ⟨z0, z1, z2, z3, z4, z5, z6, z7⟩ := vec8 K0.out
      obtain ⟨f0, f1, f2, f3, f4, f5, f6, f7⟩ := free8 K0.out
      go_wp2
      rw [XV.out]
      exact vec_end rfl rfl rfl K0.out FN.out
end Go.Proofs.YtddebgmjolojeaaGreatDoor
