/- FormatNumber: the program's and the reference's. -/
import Derived.Test.YtikgcogiiohahaaGreatDoorRows
import Derived.Test.YtikgcogiiohahaaGreatDoorNumMake
import Derived.Test.YtikgcogiiohahaaGreatDoorMm2
import Derived.Test.YtikgcogiiohahaaGreatDoorMm1
import Derived.Test.YtikgcogiiohahaaGreatDoorVecStr
import Derived.WalkKit
import Derived.WalkSpells
import Derived.WalkLawsBesides
import Derived.IntWalk
import Derived.Lib.Hide
import Derived.RegionTactic
import Derived.Deep.RegionHeld3
import Derived.OwnWalk
import Derived.Deep.DeepCutAuto
import Derived.Maps.OwnSet
import Derived.Lib.AppendZeros
namespace Go.Proofs.YtikgcogiiohahaaGreatDoor
set_option maxRecDepth 100000
open Go.RowKit
set_option linter.unusedVariables false

/-- The text of an item. -/
def txI (x : It) : ByteArray := if x.n = 0 ∧ x.d = 0 ∧ x.t.size = 0 then ⟨#[78, 65]⟩ else if isN x then (if x.d = 1 then ⟨(Lib.itoa x.n).toArray⟩ else ⟨(Lib.itoa x.n).toArray⟩ ++ ⟨#[47]⟩ ++ ⟨(Lib.itoa x.d).toArray⟩) else ⟨#[]⟩
theorem tx_no {n d : Int} (h : n = 0) (k : d = 0) : txI ⟨n, d, ⟨#[]⟩⟩ = ⟨#[78, 65]⟩ := by unfold txI; rw [if_pos ⟨h, k, rfl⟩]
theorem tx_bad {x : It} (h : isN x = false) (k : ¬ (x.n = 0 ∧ x.d = 0 ∧ x.t.size = 0)) : txI x = ⟨#[]⟩ := by unfold txI; rw [if_neg k, h]; rfl
theorem tx_one {x : It} (h : isN x = true) (k : x.d = 1) : txI x = ⟨(Lib.itoa x.n).toArray⟩ := by
  have := isN_iff.1 h
  unfold txI; rw [if_neg (by omega), if_pos h, if_pos k]
theorem tx_two {x : It} (h : isN x = true) (k : x.d ≠ 1) : txI x = ⟨(Lib.itoa x.n).toArray⟩ ++ ⟨#[47]⟩ ++ ⟨(Lib.itoa x.d).toArray⟩ := by
  have := isN_iff.1 h
  unfold txI; rw [if_neg (by omega), if_pos h, if_neg k]
theorem itoa_small (n : Int) (h0 : -9223372036854775808 ≤ n) (h1 : n ≤ 9223372036854775807) : (⟨(Lib.itoa n).toArray⟩ : ByteArray).size ≤ 21 := by
  have := Lib.itoa_length_le n (by omega) (by omega)
  exact this
theorem tab_step {W W' w1 : World} (h : Lib.TabIs Tryz.prog W "internal/strconv.uint64pow10" .u64 Lib.pow10Tab) (s : Step W W') (hb : Below W'.heap.size W' w1) : Lib.TabIs Tryz.prog w1 "internal/strconv.uint64pow10" .u64 Lib.pow10Tab :=
  tab_below (tab_below h s.below) hb
theorem ret_tx {a b : ByteArray} (h : a = b) : Ending.returned (.string a) = .returned (.string b) := by rw [h]
theorem empty_of {t : ByteArray} (h : ¬ t.size = 0) : t.toList.isEmpty = false := by
  cases k : t.toList with
  | nil => rw [ByteArray.toList_eq] at k; exact absurd (show t.data.toList.length = 0 by rw [k]; rfl) h
  | cons _ _ => rfl

set_option maxHeartbeats 4000000 in
theorem implTxI (n d : Int) (t : ByteArray) (w : World) (ht : t.size ≤ 9223372036854775807) (tab : Lib.TabIs Tryz.prog w "internal/strconv.uint64pow10" .u64 Lib.pow10Tab) :
    Calls Tryz.prog 73 #[.agg #[.int .i64 n, .int .i64 d, .string t]] w fun e w' => e = .returned (.string (txI ⟨n, d, t⟩)) ∧ Below w.heap.size w w' := by
  have TB := Lib.hid tab
  clear tab
  cases h : isN ⟨n, d, t⟩
  · have N := Lib.hid h
    by_cases t0 : t.size = 0
    · obtain rfl := empty_of_size t0
      clear t0
      by_cases n0 : n = 0
      · by_cases d0 : d = 0
        · subst n0 d0
          have X := Lib.hid (tx_no (n := 0) (d := 0) rfl rfl)
          clear h
          go_enter Tryz.func73, Tryz.ntmps73
          go_wp2
          go_ret
          exact ⟨ret_tx X.out.symm, below1 w _⟩
        · have X := Lib.hid (tx_bad h (by simp only; omega))
          subst n0
          clear h
          go_enter Tryz.func73, Tryz.ntmps73
          go_wp2_with fail
          refine (implNumNo 0 d ⟨#[]⟩ _ ht N.out).mono ?_
          rintro e w1 ⟨rfl, hb⟩
          obtain ⟨hc, hf⟩ := bcell hb
          have B1 := Lib.hid (below_then (below1 w _) hb)
          clear hb
          go_wp2
          go_ret
          exact ⟨ret_tx X.out.symm, B1.out⟩
      · have X := Lib.hid (tx_bad h (by simp only; omega))
        clear h
        go_enter Tryz.func73, Tryz.ntmps73
        go_wp2_with fail
        refine (implNumNo n d ⟨#[]⟩ _ ht N.out).mono ?_
        rintro e w1 ⟨rfl, hb⟩
        obtain ⟨hc, hf⟩ := bcell hb
        have B1 := Lib.hid (below_then (below1 w _) hb)
        clear hb
        go_wp2
        go_ret
        exact ⟨ret_tx X.out.symm, B1.out⟩
    · have X := Lib.hid (tx_bad h (by simp only; omega))
      have e1 := empty_of t0
      clear h t0
      by_cases n0 : n = 0
      · by_cases d0 : d = 0
        · subst n0 d0
          go_enter Tryz.func73, Tryz.ntmps73
          go_wp2_with fail
          refine (implNumNo 0 0 t _ ht N.out).mono ?_
          rintro e w1 ⟨rfl, hb⟩
          obtain ⟨hc, hf⟩ := bcell hb
          have B1 := Lib.hid (below_then (below1 w _) hb)
          clear hb
          go_wp2
          go_ret
          exact ⟨ret_tx X.out.symm, B1.out⟩
        · subst n0
          go_enter Tryz.func73, Tryz.ntmps73
          go_wp2_with fail
          refine (implNumNo 0 d t _ ht N.out).mono ?_
          rintro e w1 ⟨rfl, hb⟩
          obtain ⟨hc, hf⟩ := bcell hb
          have B1 := Lib.hid (below_then (below1 w _) hb)
          clear hb
          go_wp2
          go_ret
          exact ⟨ret_tx X.out.symm, B1.out⟩
      · go_enter Tryz.func73, Tryz.ntmps73
        go_wp2_with fail
        refine (implNumNo n d t _ ht N.out).mono ?_
        rintro e w1 ⟨rfl, hb⟩
        obtain ⟨hc, hf⟩ := bcell hb
        have B1 := Lib.hid (below_then (below1 w _) hb)
        clear hb
        go_wp2
        go_ret
        exact ⟨ret_tx X.out.symm, B1.out⟩
  · have N := Lib.hid h
    obtain ⟨q0, q1, q2, q3, q4, _⟩ := isN_iff.1 h
    dsimp only at q0 q1 q2 q3 q4
    subst q0
    by_cases d1 : d = 1
    · have X := Lib.hid (tx_one h d1)
      subst d1
      clear h
      go_enter Tryz.func73, Tryz.ntmps73
      go_wp2_with fail
      refine (implNumYes n 1 ⟨#[]⟩ _ ht N.out).mono ?_
      rintro e w1 ⟨rfl, hb⟩
      obtain ⟨hc, hf⟩ := bcell hb
      have B1 := Lib.hid (below_then (below1 w _) hb)
      clear hb
      go_wp2_with fail
      refine (implFmt n _ (by omega) (by omega) (tab_below TB.out B1.out)).mono ?_
      rintro e w2 ⟨rfl, hb⟩
      have B2 := Lib.hid (below_then B1.out hb)
      clear hb
      go_wp2
      go_ret
      exact ⟨ret_tx X.out.symm, B2.out⟩
    · have X := Lib.hid (tx_two h d1)
      clear h
      have L1 := itoa_small n (by omega) (by omega)
      have L2 := itoa_small d (by omega) (by omega)
      obtain ⟨A, hA⟩ : ∃ A : ByteArray, ⟨(Lib.itoa n).toArray⟩ = A := ⟨_, rfl⟩
      obtain ⟨D, hD⟩ : ∃ D : ByteArray, ⟨(Lib.itoa d).toArray⟩ = D := ⟨_, rfl⟩
      have CA : Hid (∀ W, Lib.TabIs Tryz.prog W "internal/strconv.uint64pow10" .u64 Lib.pow10Tab → Calls Tryz.prog 80 #[.int .i64 n] W fun e w' => e = .returned (.string A) ∧ Below W.heap.size W w') := by
        refine Lib.hid ?_
        intro W tw
        rw [← hA]
        exact implFmt n W (by omega) (by omega) tw
      have CD : Hid (∀ W, Lib.TabIs Tryz.prog W "internal/strconv.uint64pow10" .u64 Lib.pow10Tab → Calls Tryz.prog 80 #[.int .i64 d] W fun e w' => e = .returned (.string D) ∧ Below W.heap.size W w') := by
        refine Lib.hid ?_
        intro W tw
        rw [← hD]
        exact implFmt d W (by omega) (by omega) tw
      rw [hA] at L1
      rw [hD] at L2
      have K1 : ¬ 9223372036854775807 < A.size + 1 := by omega
      have K2 : ¬ 9223372036854775806 < A.size := by omega
      have K3 : ¬ 9223372036854775807 < A.size + 1 + D.size := by omega
      have K4 : A.size + 1 ≤ 9223372036854775807 := by omega
      have K5 : A.size ≤ 9223372036854775806 := by omega
      have K6 : A.size + 1 + D.size ≤ 9223372036854775807 := by omega
      simp only [hA, hD] at X
      clear hA hD
      go_enter Tryz.func73, Tryz.ntmps73
      go_wp2_with fail
      refine (implNumYes n d ⟨#[]⟩ _ ht N.out).mono ?_
      rintro e w1 ⟨rfl, hb⟩
      obtain ⟨hc, hf⟩ := bcell hb
      have B1 := Lib.hid (below_then (below1 w _) hb)
      have GX := Lib.hid (blk_below (g := w.heap.size) hb (blk_new _ _ rfl))
      have BS := Lib.hid (Below.refl w1.heap.size w1)
      have TS := Lib.hid (tab_below TB.out B1.out)
      clear hb
      go_wp2_with fail
      clear hc hf
      go_region_held3 (fun w' => w'.cell? ⟨w.heap.size, 0, none⟩ = some (.int .i64 n) ∧ w'.cell? ⟨w.heap.size, 1, none⟩ = some (.int .i64 d) ∧ w'.cell? ⟨w.heap.size, 2, none⟩ = some (.string ⟨#[]⟩)) (first | with_reducible exact (three (blk_drew GX.out)).1 | with_reducible exact (three GX.out).1) (first | (go_at_call_of 80 (Value.int IntKind.i64 n); refine (CA.out _ (tab_below TS.out (Step.below (by first | with_reducible exact .same | with_reducible exact .drew)))).mono ?_; rintro e w2 ⟨rfl, hb⟩; have GX := Lib.hid (blk_step hb (by first | with_reducible exact .same | with_reducible exact .drew) GX.out); have TS := Lib.hid (tab_step TS.out (by first | with_reducible exact .same | with_reducible exact .drew) hb); have BS := Lib.hid (below_step BS.out (by first | with_reducible exact .same | with_reducible exact .drew) hb BS.out.size); have hs := BS.out.size; clear hb) | (go_at_call_of 80 (Value.int IntKind.i64 d); refine (CD.out _ (tab_below TS.out (Step.below (by first | with_reducible exact .same | with_reducible exact .drew)))).mono ?_; rintro e w3 ⟨rfl, hb⟩; have GX := Lib.hid (blk_step hb (by first | with_reducible exact .same | with_reducible exact .drew) GX.out); have TS := Lib.hid (tab_step TS.out (by first | with_reducible exact .same | with_reducible exact .drew) hb); have BS := Lib.hid (below_step BS.out (by first | with_reducible exact .same | with_reducible exact .drew) hb BS.out.size); have hs := BS.out.size; clear hb))
      all_goals
        go_wp2
        go_ret
        first | exact ⟨ret_tx X.out.symm, below_then B1.out BS.out⟩ | exact ⟨ret_tx X.out.symm, below_drew' B1.out⟩

set_option maxHeartbeats 4000000 in
theorem specTxI (n d : Int) (t : ByteArray) (w : World) (ht : t.size ≤ 9223372036854775807) :
    Calls Tryz.prog 39 #[.agg #[.int .i64 n, .int .i64 d, .string t]] w fun e w' => e = .returned (.string (txI ⟨n, d, t⟩)) ∧ Below w.heap.size w w' := by
  cases h : isN ⟨n, d, t⟩
  · have N := Lib.hid h
    by_cases t0 : t.size = 0
    · obtain rfl := empty_of_size t0
      clear t0
      by_cases n0 : n = 0
      · by_cases d0 : d = 0
        · subst n0 d0
          have X := Lib.hid (tx_no (n := 0) (d := 0) rfl rfl)
          clear h
          go_enter Tryz.func39, Tryz.ntmps39
          go_wp2
          go_ret
          exact ⟨ret_tx X.out.symm, below1 w _⟩
        · have X := Lib.hid (tx_bad h (by simp only; omega))
          subst n0
          clear h
          go_enter Tryz.func39, Tryz.ntmps39
          go_wp2_with fail
          refine (specNumNo 0 d ⟨#[]⟩ _ ht N.out).mono ?_
          rintro e w1 ⟨rfl, hb⟩
          obtain ⟨hc, hf⟩ := bcell hb
          have B1 := Lib.hid (below_then (below1 w _) hb)
          clear hb
          go_wp2
          go_ret
          exact ⟨ret_tx X.out.symm, B1.out⟩
      · have X := Lib.hid (tx_bad h (by simp only; omega))
        clear h
        go_enter Tryz.func39, Tryz.ntmps39
        go_wp2_with fail
        refine (specNumNo n d ⟨#[]⟩ _ ht N.out).mono ?_
        rintro e w1 ⟨rfl, hb⟩
        obtain ⟨hc, hf⟩ := bcell hb
        have B1 := Lib.hid (below_then (below1 w _) hb)
        clear hb
        go_wp2
        go_ret
        exact ⟨ret_tx X.out.symm, B1.out⟩
    · have X := Lib.hid (tx_bad h (by simp only; omega))
      have e1 := empty_of t0
      clear h t0
      by_cases n0 : n = 0
      · by_cases d0 : d = 0
        · subst n0 d0
          go_enter Tryz.func39, Tryz.ntmps39
          go_wp2_with fail
          refine (specNumNo 0 0 t _ ht N.out).mono ?_
          rintro e w1 ⟨rfl, hb⟩
          obtain ⟨hc, hf⟩ := bcell hb
          have B1 := Lib.hid (below_then (below1 w _) hb)
          clear hb
          go_wp2
          go_ret
          exact ⟨ret_tx X.out.symm, B1.out⟩
        · subst n0
          go_enter Tryz.func39, Tryz.ntmps39
          go_wp2_with fail
          refine (specNumNo 0 d t _ ht N.out).mono ?_
          rintro e w1 ⟨rfl, hb⟩
          obtain ⟨hc, hf⟩ := bcell hb
          have B1 := Lib.hid (below_then (below1 w _) hb)
          clear hb
          go_wp2
          go_ret
          exact ⟨ret_tx X.out.symm, B1.out⟩
      · go_enter Tryz.func39, Tryz.ntmps39
        go_wp2_with fail
        refine (specNumNo n d t _ ht N.out).mono ?_
        rintro e w1 ⟨rfl, hb⟩
        obtain ⟨hc, hf⟩ := bcell hb
        have B1 := Lib.hid (below_then (below1 w _) hb)
        clear hb
        go_wp2
        go_ret
        exact ⟨ret_tx X.out.symm, B1.out⟩
  · have N := Lib.hid h
    obtain ⟨q0, q1, q2, q3, q4, _⟩ := isN_iff.1 h
    dsimp only at q0 q1 q2 q3 q4
    subst q0
    by_cases d1 : d = 1
    · have X := Lib.hid (tx_one h d1)
      subst d1
      clear h
      go_enter Tryz.func39, Tryz.ntmps39
      go_wp2_with fail
      refine (specNumYes n 1 ⟨#[]⟩ _ ht N.out).mono ?_
      rintro e w1 ⟨rfl, hb⟩
      obtain ⟨hc, hf⟩ := bcell hb
      have B1 := Lib.hid (below_then (below1 w _) hb)
      clear hb
      go_wp2_with fail
      refine (specFmt n _ (by omega) (by omega)).mono ?_
      rintro e w2 ⟨rfl, rfl⟩
      go_wp2
      go_ret
      exact ⟨ret_tx X.out.symm, B1.out⟩
    · have X := Lib.hid (tx_two h d1)
      clear h
      have L1 := itoa_small n (by omega) (by omega)
      have L2 := itoa_small d (by omega) (by omega)
      obtain ⟨A, hA⟩ : ∃ A : ByteArray, ⟨(Lib.itoa n).toArray⟩ = A := ⟨_, rfl⟩
      obtain ⟨D, hD⟩ : ∃ D : ByteArray, ⟨(Lib.itoa d).toArray⟩ = D := ⟨_, rfl⟩
      have CA : Hid (∀ W, Calls Tryz.prog 52 #[.int .i64 n] W fun e w' => e = .returned (.string A) ∧ W = w') := by
        refine Lib.hid ?_
        intro W 
        rw [← hA]
        exact specFmt n W (by omega) (by omega) 
      have CD : Hid (∀ W, Calls Tryz.prog 52 #[.int .i64 d] W fun e w' => e = .returned (.string D) ∧ W = w') := by
        refine Lib.hid ?_
        intro W 
        rw [← hD]
        exact specFmt d W (by omega) (by omega) 
      rw [hA] at L1
      rw [hD] at L2
      have K1 : ¬ 9223372036854775807 < A.size + 1 := by omega
      have K2 : ¬ 9223372036854775806 < A.size := by omega
      have K3 : ¬ 9223372036854775807 < A.size + 1 + D.size := by omega
      have K4 : A.size + 1 ≤ 9223372036854775807 := by omega
      have K5 : A.size ≤ 9223372036854775806 := by omega
      have K6 : A.size + 1 + D.size ≤ 9223372036854775807 := by omega
      simp only [hA, hD] at X
      clear hA hD
      go_enter Tryz.func39, Tryz.ntmps39
      go_wp2_with fail
      refine (specNumYes n d ⟨#[]⟩ _ ht N.out).mono ?_
      rintro e w1 ⟨rfl, hb⟩
      obtain ⟨hc, hf⟩ := bcell hb
      have B1 := Lib.hid (below_then (below1 w _) hb)
      have GX := Lib.hid (blk_below (g := w.heap.size) hb (blk_new _ _ rfl))
      have BS := Lib.hid (Below.refl w1.heap.size w1)
      clear hb
      go_wp2_with fail
      clear hc hf
      go_region_held3 (fun w' => w'.cell? ⟨w.heap.size, 0, none⟩ = some (.int .i64 n) ∧ w'.cell? ⟨w.heap.size, 1, none⟩ = some (.int .i64 d) ∧ w'.cell? ⟨w.heap.size, 2, none⟩ = some (.string ⟨#[]⟩)) (first | with_reducible exact (three (blk_drew GX.out)).1 | with_reducible exact (three GX.out).1) (first | (go_at_call_of 52 (Value.int IntKind.i64 n); refine (CA.out _).mono ?_; rintro e w2 ⟨rfl, rfl⟩) | (go_at_call_of 52 (Value.int IntKind.i64 d); refine (CD.out _).mono ?_; rintro e w3 ⟨rfl, rfl⟩))
      all_goals
        go_wp2
        go_ret
        first | exact ⟨ret_tx X.out.symm, below_then B1.out BS.out⟩ | exact ⟨ret_tx X.out.symm, below_drew' B1.out⟩
end Go.Proofs.YtikgcogiiohahaaGreatDoor

/- Elements converted to a later kind, and taken plain, as data. -/
namespace Go.Proofs.YtikgcogiiohahaaGreatDoor
open Go.RowKit
set_option maxRecDepth 100000
set_option linter.unusedVariables false

/-- The two texts of logical values. -/
def falB : ByteArray := ⟨#[70, 65, 76, 83, 69]⟩
def truB : ByteArray := ⟨#[84, 82, 85, 69]⟩
/-- An element of the kind k as one of the kind j. -/
def cnvI (k j : Int) (x : It) : It := if k = j ∨ j ≠ 3 ∨ x.d = 0 then x else if k = 1 then txE (if x.n = 0 then falB else truB) else txE (txI x)
theorem cnv_same {k j : Int} {x : It} (h : k = j ∨ j ≠ 3 ∨ x.d = 0) : cnvI k j x = x := by unfold cnvI; rw [if_pos h]
theorem cnv_log {x : It} (h : x.d ≠ 0) : cnvI 1 3 x = txE (if x.n = 0 then falB else truB) := by unfold cnvI; rw [if_neg (by omega), if_pos rfl]
theorem cnv_num {x : It} (h : x.d ≠ 0) : cnvI 2 3 x = txE (txI x) := by unfold cnvI; rw [if_neg (by omega), if_neg (by decide)]
theorem txE_ok {s : ByteArray} (h : s.size ≤ 60) : ItOk 3 (txE s) := .inr (.inr (.inr ⟨rfl, rfl, rfl, h⟩))
/-- An element taken plain: a factor's is its level. -/
def plnI (levels : List ByteArray) (x : It) : It := if x.d = 0 ∨ levels.length = 0 then x else txE (levels.getD (x.n - 1).toNat ⟨#[]⟩)
def plnK (k : Int) (levels : List ByteArray) : Int := if levels.length = 0 then k else 3
theorem pln_same {levels : List ByteArray} {x : It} (h : x.d = 0 ∨ levels.length = 0) : plnI levels x = x := by unfold plnI; rw [if_pos h]
theorem pln_lev {levels : List ByteArray} {x : It} (h : ¬ (x.d = 0 ∨ levels.length = 0)) : plnI levels x = txE (levels.getD (x.n - 1).toNat ⟨#[]⟩) := by unfold plnI; rw [if_neg h]
theorem plnK_no {k : Int} {levels : List ByteArray} (h : levels.length = 0) : plnK k levels = k := by unfold plnK; rw [if_pos h]
theorem plnK_yes {k : Int} {levels : List ByteArray} (h : ¬ levels.length = 0) : plnK k levels = 3 := by unfold plnK; rw [if_neg h]
theorem pln_ok {k : Int} {levels : List ByteArray} {x : It} (h : ItOk k x) (hl : LevOk levels.length x) (hs : LabelsOk (txtS levels) levels.length 20) : ItOk (plnK k levels) (plnI levels x) := by
  by_cases e : levels.length = 0
  · rw [plnK_no e, pln_same (.inr e)]; exact h
  · rw [plnK_yes e]
    by_cases hd : x.d = 0
    · rw [pln_same (.inl hd)]
      rcases h with rfl | ⟨_, h1, _⟩ | ⟨_, h1⟩ | ⟨_, _, h1, _⟩
      · exact .inl rfl
      · omega
      · have := isN_iff.1 h1; omega
      · omega
    · rw [pln_lev (by omega)]
      refine txE_ok ?_
      rcases hl with h0 | h0 | ⟨h0, h1, h2⟩
      · omega
      · omega
      · have := (hs.2 (x.n - 1).toNat (by omega)).2.1
        exact this
/-- The number of bytes of a text. -/
def bytI (x : It) : It := if x.d = 0 then x else ⟨(x.t.size : Int), 1, ⟨#[]⟩⟩
/-- The elements of a vector, plain. -/
def plnL (levels : List ByteArray) (items : List It) : List It := itF (fun i => plnI levels (items.getD i noI)) items.length
theorem plnL_len (levels : List ByteArray) (items : List It) : (plnL levels items).length = items.length := itF_len _ _
theorem plnL_at {levels : List ByteArray} {items : List It} {i : Nat} (h : i < items.length) : (plnL levels items).getD i noI = plnI levels (items.getD i noI) := itF_getD _ h
def cnvL (k j : Int) (l : List It) : List It := itF (fun i => cnvI k j (l.getD i noI)) l.length
theorem cnvL_len (k j : Int) (l : List It) : (cnvL k j l).length = l.length := itF_len _ _
theorem cnvL_at {k j : Int} {l : List It} {i : Nat} (h : i < l.length) : (cnvL k j l).getD i noI = cnvI k j (l.getD i noI) := itF_getD _ h
/-- What a vector that is atomic or NULL is known to have. -/
structure AtmOk (kk : Int) (items : List It) (levels : List ByteArray) : Prop where
  kind : 0 ≤ kk ∧ kk ≤ 3
  len : items.length ≤ 40
  llen : levels.length ≤ 20
  labs : LabelsOk (txtS levels) levels.length 20
  its : ∀ i, i < items.length → ItOk kk (items.getD i noI) ∧ LevOk levels.length (items.getD i noI)
  null : kk = 0 → items.length = 0
  two : kk ≠ 2 → levels.length = 0
theorem atm_ok {kk : Int} {items : List It} {parts : List Vec} {names cls levels : List ByteArray} {code env : Int} (h : ValidV (.mk kk items parts names cls levels code env)) (hk : kk ≤ 3) : AtmOk kk items levels := by
  have hf : FlatOk kk items parts.length names cls levels code env := h.1.flat
  have h1 := hf.h_len
  unfold lenV at h1
  rw [if_neg (by omega)] at h1
  exact ⟨⟨hf.h_kind.1, hk⟩, by omega, hf.h_levels.1, hf.h_levels, hf.h_items, fun e => by have := (hf.h_null e).1; omega, hf.h_noLevels⟩
theorem AtmOk.pk {kk : Int} {items : List It} {levels : List ByteArray} (h : AtmOk kk items levels) : 0 ≤ plnK kk levels ∧ plnK kk levels ≤ 3 ∧ kk ≤ plnK kk levels := by
  have := h.kind
  unfold plnK; split <;> omega
theorem AtmOk.pln {kk : Int} {items : List It} {levels : List ByteArray} (h : AtmOk kk items levels) {i : Nat} (hi : i < items.length) : ItOk (plnK kk levels) ((plnL levels items).getD i noI) := by
  rw [plnL_at hi]
  exact pln_ok (h.its i hi).1 (h.its i hi).2 h.labs
end Go.Proofs.YtikgcogiiohahaaGreatDoor

/- Elements converted to a later kind and taken plain: both sides. -/
namespace Go.Proofs.YtikgcogiiohahaaGreatDoor
open Go.RowKit
set_option maxRecDepth 100000
set_option linter.unusedVariables false

theorem implFmtLog (n d : Int) (t : ByteArray) (w : World) :
    Calls Tryz.prog 72 #[.agg #[.int .i64 n, .int .i64 d, .string t]] w fun e w' => e = .returned (.string (if n = 0 then falB else truB)) ∧ Below w.heap.size w w' := by
  by_cases h : n = 0
  · subst h
    go_enter Tryz.func72, Tryz.ntmps72
    go_wp2
    go_ret
    exact ⟨rfl, below1 w _⟩
  · have hb : (n == 0) = false := by simp [h]
    rw [if_neg h]
    go_enter Tryz.func72, Tryz.ntmps72
    go_wp2
    go_ret
    exact ⟨rfl, below1 w _⟩
set_option maxHeartbeats 4000000 in
theorem implCnvS (k j n d : Int) (t : ByteArray) (w : World) (h0 : 0 ≤ k) (hk : k ≤ j) (hj : j ≤ 3) (hs : k = j ∨ j ≠ 3) :
    Calls Tryz.prog 57 #[.agg #[.int .i64 n, .int .i64 d, .string t], .int .i64 k, .int .i64 j] w (fun e w' => e = .returned (.agg #[.int .i64 n, .int .i64 d, .string t]) ∧ Below w.heap.size w w') := by
  have hsz : (w.alloc (.cells #[.int .i64 n, .int .i64 d, .string t] 45)).heap.size = w.heap.size + 1 := by simp
  rcases (show (j = 3 ∧ k = 3) ∨ (j = 2 ∧ k = 2) ∨ (j = 2 ∧ k = 1) ∨ (j = 2 ∧ k = 0) ∨ (j = 1 ∧ k = 1) ∨ (j = 1 ∧ k = 0) ∨ (j = 0 ∧ k = 0) by omega) with ⟨rfl, rfl⟩ | ⟨rfl, rfl⟩ | ⟨rfl, rfl⟩ | ⟨rfl, rfl⟩ | ⟨rfl, rfl⟩ | ⟨rfl, rfl⟩ | ⟨rfl, rfl⟩
  all_goals
    clear h0 hk hj hs
    go_enter Tryz.func57, Tryz.ntmps57
    go_wp2
    first | exact item_ret0 rfl rfl rfl (blk_new _ _ hsz.symm) ⟨rfl, below2 w _ _⟩ | exact item_ret0 rfl rfl rfl (blk_new _ _ rfl) ⟨rfl, below2 w _ _⟩ | exact item_ret rfl rfl rfl (blk_new _ _ hsz.symm) ⟨rfl, below_three (below2 w _ _) (by simp) _ _ _⟩
set_option maxHeartbeats 4000000 in
theorem implCnv0 (k : Int) (w : World) (h0 : 0 ≤ k) (hk : k ≤ 2) :
    Calls Tryz.prog 57 #[.agg #[.int .i64 0, .int .i64 0, .string ⟨#[]⟩], .int .i64 k, .int .i64 3] w (fun e w' => e = .returned (.agg #[.int .i64 0, .int .i64 0, .string ⟨#[]⟩]) ∧ Below w.heap.size w w') := by
  have hsz : (w.alloc (.cells #[.int .i64 0, .int .i64 0, .string ⟨#[]⟩] 45)).heap.size = w.heap.size + 1 := by simp
  rcases (show k = 0 ∨ k = 1 ∨ k = 2 by omega) with rfl | rfl | rfl
  all_goals
    clear h0 hk
    go_enter Tryz.func57, Tryz.ntmps57
    go_wp2
    first | exact item_ret0 rfl rfl rfl (blk_new _ _ hsz.symm) ⟨rfl, below2 w _ _⟩ | exact item_ret0 rfl rfl rfl (blk_new _ _ rfl) ⟨rfl, below2 w _ _⟩ | exact item_ret rfl rfl rfl (blk_new _ _ hsz.symm) ⟨rfl, below_three (below2 w _ _) (by simp) _ _ _⟩
set_option maxHeartbeats 4000000 in
theorem implCnvL (n : Int) (w : World) (hn : n = 0 ∨ n = 1) :
    Calls Tryz.prog 57 #[.agg #[.int .i64 n, .int .i64 1, .string ⟨#[]⟩], .int .i64 1, .int .i64 3] w (fun e w' => e = .returned (.agg #[.int .i64 0, .int .i64 1, .string (if n = 0 then falB else truB)]) ∧ Below w.heap.size w w') := by
  obtain ⟨V, hV⟩ : ∃ V, (if n = 0 then falB else truB) = V := ⟨_, rfl⟩
  have CT := Lib.hid (fun (W : World) (_ : Below w.heap.size w W) => implTxtItem V W)
  have CF := Lib.hid (fun (W : World) (_ : Below w.heap.size w W) => (by have h := implFmtLog n 1 ⟨#[]⟩ W; rw [hV] at h; exact h : Calls Tryz.prog 72 #[.agg #[.int .i64 n, .int .i64 1, .string ⟨#[]⟩]] W fun e w' => e = .returned (.string V) ∧ Below W.heap.size W w'))
  rw [hV]
  clear hV hn
  have hsz : (w.alloc (.cells #[.int .i64 n, .int .i64 1, .string ⟨#[]⟩] 45)).heap.size = w.heap.size + 1 := by simp
  obtain ⟨w1, hw1⟩ : ∃ W, (w.alloc (.cells #[.int .i64 n, .int .i64 1, .string ⟨#[]⟩] 45)).alloc (.cells #[.int .i64 0, .int .i64 0, .string ⟨#[]⟩] 45) = W := ⟨_, rfl⟩
  have B1 := Lib.hid (show Below w.heap.size w w1 from hw1 ▸ below2 w _ _)
  have KX := Lib.hid (show w1.heap[w.heap.size]? = some (.cells #[.int .i64 n, .int .i64 1, .string ⟨#[]⟩] 45 (0, 0)) from hw1 ▸ blk_old (blk_new w _ rfl))
  have KZ := Lib.hid (show w1.heap[w.heap.size + 1]? = some (.cells #[.int .i64 0, .int .i64 0, .string ⟨#[]⟩] 45 (0, 0)) from by rw [← hw1]; exact blk_new _ _ hsz.symm)
  have EW := Lib.hid hw1
  clear hw1 hsz
  go_enter Tryz.func57, Tryz.ntmps57
  go_wp2_with fail
  rw [EW.out]
  refine (CF.out w1 B1.out).mono ?_
  rintro e w2 ⟨rfl, b⟩
  have B2 := Lib.hid (below_then B1.out b)
  have KX2 := Lib.hid (blk_below b KX.out)
  have KZ2 := Lib.hid (blk_below b KZ.out)
  clear b
  go_wp2_with fail
  refine (CT.out w2 B2.out).mono ?_
  rintro e w3 ⟨rfl, b⟩
  have B3 := Lib.hid (below_then B2.out b)
  have KX3 := Lib.hid (blk_below b KX2.out)
  have KZ3 := Lib.hid (blk_below b KZ2.out)
  clear b
  obtain ⟨⟨z0, z1, z2⟩, f0, f1, f2⟩ := three KZ3.out
  go_wp2
  exact item_ret rfl rfl rfl KZ3.out ⟨rfl, below_three B3.out (by omega) _ _ _⟩
set_option maxHeartbeats 4000000 in
theorem implCnvN (n d : Int) (t : ByteArray) (w : World) (h : isN ⟨n, d, t⟩ = true) (tab : Lib.TabIs Tryz.prog w "internal/strconv.uint64pow10" .u64 Lib.pow10Tab) :
    Calls Tryz.prog 57 #[.agg #[.int .i64 n, .int .i64 d, .string t], .int .i64 2, .int .i64 3] w (fun e w' => e = .returned (.agg #[.int .i64 0, .int .i64 1, .string (txI ⟨n, d, t⟩)]) ∧ Below w.heap.size w w') := by
  have hi := isN_iff.1 h
  have ht : t.size ≤ 9223372036854775807 := by have : t = ⟨#[]⟩ := hi.1; rw [this]; exact Nat.zero_le _
  have hd : d ≠ 0 := by have := hi.2.1; simp only at this; omega
  have hdb : (d == 0) = false := by simp [hd]
  have TB := Lib.hid tab
  have CF := Lib.hid (fun (W : World) (hb : Below w.heap.size w W) => implTxI n d t W ht (tab_below TB.out hb))
  obtain ⟨V, hV⟩ : ∃ V, txI ⟨n, d, t⟩ = V := ⟨_, rfl⟩
  rw [hV] at CF ⊢
  have CT := Lib.hid (fun (W : World) (_ : Below w.heap.size w W) => implTxtItem V W)
  clear hV hi h ht tab
  have hsz : (w.alloc (.cells #[.int .i64 n, .int .i64 d, .string t] 45)).heap.size = w.heap.size + 1 := by simp
  obtain ⟨w1, hw1⟩ : ∃ W, (w.alloc (.cells #[.int .i64 n, .int .i64 d, .string t] 45)).alloc (.cells #[.int .i64 0, .int .i64 0, .string ⟨#[]⟩] 45) = W := ⟨_, rfl⟩
  have B1 := Lib.hid (show Below w.heap.size w w1 from hw1 ▸ below2 w _ _)
  have KX := Lib.hid (show w1.heap[w.heap.size]? = some (.cells #[.int .i64 n, .int .i64 d, .string t] 45 (0, 0)) from hw1 ▸ blk_old (blk_new w _ rfl))
  have KZ := Lib.hid (show w1.heap[w.heap.size + 1]? = some (.cells #[.int .i64 0, .int .i64 0, .string ⟨#[]⟩] 45 (0, 0)) from by rw [← hw1]; exact blk_new _ _ hsz.symm)
  have EW := Lib.hid hw1
  clear hw1 hsz
  go_enter Tryz.func57, Tryz.ntmps57
  go_wp2_with fail
  rw [EW.out]
  refine (CF.out w1 B1.out).mono ?_
  rintro e w2 ⟨rfl, b⟩
  have B2 := Lib.hid (below_then B1.out b)
  have KX2 := Lib.hid (blk_below b KX.out)
  have KZ2 := Lib.hid (blk_below b KZ.out)
  clear b
  go_wp2_with fail
  refine (CT.out w2 B2.out).mono ?_
  rintro e w3 ⟨rfl, b⟩
  have B3 := Lib.hid (below_then B2.out b)
  have KX3 := Lib.hid (blk_below b KX2.out)
  have KZ3 := Lib.hid (blk_below b KZ2.out)
  clear b
  obtain ⟨⟨z0, z1, z2⟩, f0, f1, f2⟩ := three KZ3.out
  go_wp2
  exact item_ret rfl rfl rfl KZ3.out ⟨rfl, below_three B3.out (by omega) _ _ _⟩
theorem implCnv (k j : Int) (x : It) (w : World) (h : ItOk k x) (h0 : 0 ≤ k) (hk : k ≤ j) (hj : j ≤ 3) (tab : Lib.TabIs Tryz.prog w "internal/strconv.uint64pow10" .u64 Lib.pow10Tab) :
    Calls Tryz.prog 57 #[.agg #[.int .i64 x.n, .int .i64 x.d, .string x.t], .int .i64 k, .int .i64 j] w (fun e w' => e = .returned (.agg #[.int .i64 (cnvI k j x).n, .int .i64 (cnvI k j x).d, .string (cnvI k j x).t]) ∧ Below w.heap.size w w') := by
  by_cases hs : k = j ∨ j ≠ 3
  · rw [cnv_same (hs.imp id .inl)]
    exact implCnvS k j x.n x.d x.t w h0 hk hj hs
  · obtain rfl : j = 3 := by omega
    rcases h with rfl | ⟨rfl, h1, h2, h3, h4⟩ | ⟨rfl, h1⟩ | ⟨rfl, h1⟩
    · rw [cnv_same (.inr (.inr rfl))]
      exact implCnv0 k w h0 (by omega)
    · obtain ⟨n, d, t⟩ := x
      obtain rfl : t = ⟨#[]⟩ := empty_of_size h4
      obtain rfl : d = 1 := h1
      rw [cnv_log (show (1 : Int) ≠ 0 by decide)]
      exact implCnvL n w (by simp only at h2 h3; omega)
    · have hi := isN_iff.1 h1
      rw [cnv_num (by omega)]
      exact implCnvN x.n x.d x.t w h1 tab
    · omega
set_option maxHeartbeats 4000000 in
theorem specCnvS (k j n d : Int) (t : ByteArray) (w : World) (h0 : 0 ≤ k) (hk : k ≤ j) (hj : j ≤ 3) (hs : k = j ∨ j ≠ 3) :
    Calls Tryz.prog 17 #[.int .i64 k, .int .i64 j, .agg #[.int .i64 n, .int .i64 d, .string t]] w (fun e w' => e = .returned (.agg #[.int .i64 n, .int .i64 d, .string t]) ∧ Below w.heap.size w w') := by
  have hsz : (w.alloc (.cells #[.int .i64 n, .int .i64 d, .string t] 45)).heap.size = w.heap.size + 1 := by simp
  rcases (show (j = 3 ∧ k = 3) ∨ (j = 2 ∧ k = 2) ∨ (j = 2 ∧ k = 1) ∨ (j = 2 ∧ k = 0) ∨ (j = 1 ∧ k = 1) ∨ (j = 1 ∧ k = 0) ∨ (j = 0 ∧ k = 0) by omega) with ⟨rfl, rfl⟩ | ⟨rfl, rfl⟩ | ⟨rfl, rfl⟩ | ⟨rfl, rfl⟩ | ⟨rfl, rfl⟩ | ⟨rfl, rfl⟩ | ⟨rfl, rfl⟩
  all_goals
    clear h0 hk hj hs
    go_enter Tryz.func17, Tryz.ntmps17
    go_wp2
    first | exact item_ret0 rfl rfl rfl (blk_new _ _ hsz.symm) ⟨rfl, below2 w _ _⟩ | exact item_ret0 rfl rfl rfl (blk_new _ _ rfl) ⟨rfl, below2 w _ _⟩ | exact item_ret rfl rfl rfl (blk_new _ _ hsz.symm) ⟨rfl, below_three (below2 w _ _) (by simp) _ _ _⟩
set_option maxHeartbeats 4000000 in
theorem specCnv0 (k : Int) (w : World) (h0 : 0 ≤ k) (hk : k ≤ 2) :
    Calls Tryz.prog 17 #[.int .i64 k, .int .i64 3, .agg #[.int .i64 0, .int .i64 0, .string ⟨#[]⟩]] w (fun e w' => e = .returned (.agg #[.int .i64 0, .int .i64 0, .string ⟨#[]⟩]) ∧ Below w.heap.size w w') := by
  have hsz : (w.alloc (.cells #[.int .i64 0, .int .i64 0, .string ⟨#[]⟩] 45)).heap.size = w.heap.size + 1 := by simp
  rcases (show k = 0 ∨ k = 1 ∨ k = 2 by omega) with rfl | rfl | rfl
  all_goals
    clear h0 hk
    go_enter Tryz.func17, Tryz.ntmps17
    go_wp2
    first | exact item_ret0 rfl rfl rfl (blk_new _ _ hsz.symm) ⟨rfl, below2 w _ _⟩ | exact item_ret0 rfl rfl rfl (blk_new _ _ rfl) ⟨rfl, below2 w _ _⟩ | exact item_ret rfl rfl rfl (blk_new _ _ hsz.symm) ⟨rfl, below_three (below2 w _ _) (by simp) _ _ _⟩
set_option maxHeartbeats 4000000 in
theorem specCnvL (n : Int) (w : World) (hn : n = 0 ∨ n = 1) :
    Calls Tryz.prog 17 #[.int .i64 1, .int .i64 3, .agg #[.int .i64 n, .int .i64 1, .string ⟨#[]⟩]] w (fun e w' => e = .returned (.agg #[.int .i64 0, .int .i64 1, .string (if n = 0 then falB else truB)]) ∧ Below w.heap.size w w') := by
  rcases hn with rfl | rfl
  · have CT := Lib.hid (fun (W : World) => specTxtItem falB W)
    have hsz : (w.alloc (.cells #[.int .i64 0, .int .i64 1, .string ⟨#[]⟩] 45)).heap.size = w.heap.size + 1 := by simp
    obtain ⟨w1, hw1⟩ : ∃ W, (w.alloc (.cells #[.int .i64 0, .int .i64 1, .string ⟨#[]⟩] 45)).alloc (.cells #[.int .i64 0, .int .i64 0, .string ⟨#[]⟩] 45) = W := ⟨_, rfl⟩
    have B1 := Lib.hid (show Below w.heap.size w w1 from hw1 ▸ below2 w _ _)
    have KZ := Lib.hid (show w1.heap[w.heap.size + 1]? = some (.cells #[.int .i64 0, .int .i64 0, .string ⟨#[]⟩] 45 (0, 0)) from by rw [← hw1]; exact blk_new _ _ hsz.symm)
    have EW := Lib.hid hw1
    clear hw1 hsz
    go_enter Tryz.func17, Tryz.ntmps17
    go_wp2_with fail
    rw [EW.out]
    refine (CT.out _).mono ?_
    rintro e w3 ⟨rfl, b⟩
    have b0 : Below w1.heap.size w1 w3 := below_then (below1 w1 _) b
    have B2 := Lib.hid (below_then B1.out b0)
    have KZ2 := Lib.hid (blk_below b0 KZ.out)
    clear b b0
    obtain ⟨⟨z0, z1, z2⟩, f0, f1, f2⟩ := three KZ2.out
    go_wp2
    exact item_ret rfl rfl rfl KZ2.out ⟨rfl, below_three B2.out (by omega) _ _ _⟩
  · have CT := Lib.hid (fun (W : World) => specTxtItem truB W)
    have hsz : (w.alloc (.cells #[.int .i64 1, .int .i64 1, .string ⟨#[]⟩] 45)).heap.size = w.heap.size + 1 := by simp
    obtain ⟨w1, hw1⟩ : ∃ W, (w.alloc (.cells #[.int .i64 1, .int .i64 1, .string ⟨#[]⟩] 45)).alloc (.cells #[.int .i64 0, .int .i64 0, .string ⟨#[]⟩] 45) = W := ⟨_, rfl⟩
    have B1 := Lib.hid (show Below w.heap.size w w1 from hw1 ▸ below2 w _ _)
    have KZ := Lib.hid (show w1.heap[w.heap.size + 1]? = some (.cells #[.int .i64 0, .int .i64 0, .string ⟨#[]⟩] 45 (0, 0)) from by rw [← hw1]; exact blk_new _ _ hsz.symm)
    have EW := Lib.hid hw1
    clear hw1 hsz
    go_enter Tryz.func17, Tryz.ntmps17
    go_wp2_with fail
    rw [EW.out]
    refine (CT.out _).mono ?_
    rintro e w3 ⟨rfl, b⟩
    have b0 : Below w1.heap.size w1 w3 := below_then (below1 w1 _) b
    have B2 := Lib.hid (below_then B1.out b0)
    have KZ2 := Lib.hid (blk_below b0 KZ.out)
    clear b b0
    obtain ⟨⟨z0, z1, z2⟩, f0, f1, f2⟩ := three KZ2.out
    go_wp2
    exact item_ret rfl rfl rfl KZ2.out ⟨rfl, below_three B2.out (by omega) _ _ _⟩
set_option maxHeartbeats 4000000 in
theorem specCnvN (n d : Int) (t : ByteArray) (w : World) (h : isN ⟨n, d, t⟩ = true) :
    Calls Tryz.prog 17 #[.int .i64 2, .int .i64 3, .agg #[.int .i64 n, .int .i64 d, .string t]] w (fun e w' => e = .returned (.agg #[.int .i64 0, .int .i64 1, .string (txI ⟨n, d, t⟩)]) ∧ Below w.heap.size w w') := by
  have hi := isN_iff.1 h
  have ht : t.size ≤ 9223372036854775807 := by have : t = ⟨#[]⟩ := hi.1; rw [this]; exact Nat.zero_le _
  have hd : d ≠ 0 := by have := hi.2.1; simp only at this; omega
  have hdb : (d == 0) = false := by simp [hd]
  have CF := Lib.hid (fun (W : World) (hb : Below w.heap.size w W) => specTxI n d t W ht)
  obtain ⟨V, hV⟩ : ∃ V, txI ⟨n, d, t⟩ = V := ⟨_, rfl⟩
  rw [hV] at CF ⊢
  have CT := Lib.hid (fun (W : World) (_ : Below w.heap.size w W) => specTxtItem V W)
  clear hV hi h ht
  have hsz : (w.alloc (.cells #[.int .i64 n, .int .i64 d, .string t] 45)).heap.size = w.heap.size + 1 := by simp
  obtain ⟨w1, hw1⟩ : ∃ W, (w.alloc (.cells #[.int .i64 n, .int .i64 d, .string t] 45)).alloc (.cells #[.int .i64 0, .int .i64 0, .string ⟨#[]⟩] 45) = W := ⟨_, rfl⟩
  have B1 := Lib.hid (show Below w.heap.size w w1 from hw1 ▸ below2 w _ _)
  have KX := Lib.hid (show w1.heap[w.heap.size]? = some (.cells #[.int .i64 n, .int .i64 d, .string t] 45 (0, 0)) from hw1 ▸ blk_old (blk_new w _ rfl))
  have KZ := Lib.hid (show w1.heap[w.heap.size + 1]? = some (.cells #[.int .i64 0, .int .i64 0, .string ⟨#[]⟩] 45 (0, 0)) from by rw [← hw1]; exact blk_new _ _ hsz.symm)
  have EW := Lib.hid hw1
  clear hw1 hsz
  go_enter Tryz.func17, Tryz.ntmps17
  go_wp2_with fail
  rw [EW.out]
  refine (CF.out w1 B1.out).mono ?_
  rintro e w2 ⟨rfl, b⟩
  have B2 := Lib.hid (below_then B1.out b)
  have KX2 := Lib.hid (blk_below b KX.out)
  have KZ2 := Lib.hid (blk_below b KZ.out)
  clear b
  go_wp2_with fail
  refine (CT.out w2 B2.out).mono ?_
  rintro e w3 ⟨rfl, b⟩
  have B3 := Lib.hid (below_then B2.out b)
  have KX3 := Lib.hid (blk_below b KX2.out)
  have KZ3 := Lib.hid (blk_below b KZ2.out)
  clear b
  obtain ⟨⟨z0, z1, z2⟩, f0, f1, f2⟩ := three KZ3.out
  go_wp2
  exact item_ret rfl rfl rfl KZ3.out ⟨rfl, below_three B3.out (by omega) _ _ _⟩
theorem specCnv (k j : Int) (x : It) (w : World) (h : ItOk k x) (h0 : 0 ≤ k) (hk : k ≤ j) (hj : j ≤ 3) :
    Calls Tryz.prog 17 #[.int .i64 k, .int .i64 j, .agg #[.int .i64 x.n, .int .i64 x.d, .string x.t]] w (fun e w' => e = .returned (.agg #[.int .i64 (cnvI k j x).n, .int .i64 (cnvI k j x).d, .string (cnvI k j x).t]) ∧ Below w.heap.size w w') := by
  by_cases hs : k = j ∨ j ≠ 3
  · rw [cnv_same (hs.imp id .inl)]
    exact specCnvS k j x.n x.d x.t w h0 hk hj hs
  · obtain rfl : j = 3 := by omega
    rcases h with rfl | ⟨rfl, h1, h2, h3, h4⟩ | ⟨rfl, h1⟩ | ⟨rfl, h1⟩
    · rw [cnv_same (.inr (.inr rfl))]
      exact specCnv0 k w h0 (by omega)
    · obtain ⟨n, d, t⟩ := x
      obtain rfl : t = ⟨#[]⟩ := empty_of_size h4
      obtain rfl : d = 1 := h1
      rw [cnv_log (show (1 : Int) ≠ 0 by decide)]
      exact specCnvL n w (by simp only at h2 h3; omega)
    · have hi := isN_iff.1 h1
      rw [cnv_num (by omega)]
      exact specCnvN x.n x.d x.t w h1
    · omega
set_option maxHeartbeats 4000000 in
theorem implPlnS (n d : Int) (t : ByteArray) (al : Option Addr) (nl cl : Nat) (w : World) (h : (n = 0 ∧ d = 0 ∧ t.size = 0) ∨ (nl = 0 ∧ d ≠ 0)) :
    Calls Tryz.prog 54 #[.agg #[.int .i64 n, .int .i64 d, .string t], .slice al nl cl] w fun e w' => e = .returned (.agg #[.int .i64 n, .int .i64 d, .string t]) ∧ Below w.heap.size w w' := by
  have hsz : (w.alloc (.cells #[.int .i64 n, .int .i64 d, .string t] 45)).heap.size = w.heap.size + 1 := by simp
  rcases h with ⟨rfl, rfl, h⟩ | ⟨rfl, h⟩
  · obtain rfl := empty_of_size h
    clear h
    go_enter Tryz.func54, Tryz.ntmps54
    go_wp2
    first | exact item_ret0 rfl rfl rfl (blk_new _ _ hsz.symm) ⟨rfl, below2 w _ _⟩ | exact item_ret0 rfl rfl rfl (blk_new _ _ rfl) ⟨rfl, below2 w _ _⟩ | exact item_ret rfl rfl rfl (blk_new _ _ hsz.symm) ⟨rfl, below_three (below2 w _ _) (by simp) _ _ _⟩
  · have hdb : (d == 0) = false := by simp [h]
    clear h
    go_enter Tryz.func54, Tryz.ntmps54
    go_wp2
    first | exact item_ret0 rfl rfl rfl (blk_new _ _ hsz.symm) ⟨rfl, below2 w _ _⟩ | exact item_ret0 rfl rfl rfl (blk_new _ _ rfl) ⟨rfl, below2 w _ _⟩ | exact item_ret rfl rfl rfl (blk_new _ _ hsz.symm) ⟨rfl, below_three (below2 w _ _) (by simp) _ _ _⟩
set_option maxHeartbeats 4000000 in
theorem implPlnL (n d : Int) (t s : ByteArray) (b off nl cl m : Nat) (w : World) (hd : d ≠ 0) (hn : n - 1 = (m : Int)) (hm : m < nl) (hl : nl ≤ 20) (hb : b < w.heap.size) (hc : w.cell? ⟨b, off + m, none⟩ = some (.string s)) :
    Calls Tryz.prog 54 #[.agg #[.int .i64 n, .int .i64 d, .string t], .slice (some ⟨b, off, none⟩) nl cl] w fun e w' => e = .returned (.agg #[.int .i64 0, .int .i64 1, .string s]) ∧ Below w.heap.size w w' := by
  have hdb : (d == 0) = false := by simp [hd]
  have hnl : ((nl : Int) == 0) = false := by simp; omega
  have CT := Lib.hid (fun (W : World) (_ : Below w.heap.size w W) => implTxtItem s W)
  have hsz : (w.alloc (.cells #[.int .i64 n, .int .i64 d, .string t] 45)).heap.size = w.heap.size + 1 := by simp
  obtain ⟨w1, hw1⟩ : ∃ W, (w.alloc (.cells #[.int .i64 n, .int .i64 d, .string t] 45)).alloc (.cells #[.int .i64 0, .int .i64 0, .string ⟨#[]⟩] 45) = W := ⟨_, rfl⟩
  have B1 := Lib.hid (show Below w.heap.size w w1 from hw1 ▸ below2 w _ _)
  have KX := Lib.hid (show w1.heap[w.heap.size]? = some (.cells #[.int .i64 n, .int .i64 d, .string t] 45 (0, 0)) from hw1 ▸ blk_old (blk_new w _ rfl))
  have KZ := Lib.hid (show w1.heap[w.heap.size + 1]? = some (.cells #[.int .i64 0, .int .i64 0, .string ⟨#[]⟩] 45 (0, 0)) from by rw [← hw1]; exact blk_new _ _ hsz.symm)
  have EW := Lib.hid hw1
  clear hw1 hsz
  have hc1 : w1.cell? ⟨b, off + m, none⟩ = some (.string s) := ((bcell B1.out).1 _ _ hb).trans hc
  have hf1 : w1.frozen? ⟨b, off + m, none⟩ = w.frozen? ⟨b, off + m, none⟩ := (bcell B1.out).2 _ _ hb
  go_enter Tryz.func54, Tryz.ntmps54
  go_wp2_with fail
  rw [EW.out]
  refine (CT.out w1 B1.out).mono ?_
  rintro e w2 ⟨rfl, b⟩
  have B2 := Lib.hid (below_then B1.out b)
  have KX2 := Lib.hid (blk_below b KX.out)
  have KZ2 := Lib.hid (blk_below b KZ.out)
  clear b
  obtain ⟨⟨z0, z1, z2⟩, f0, f1, f2⟩ := three KZ2.out
  go_wp2
  exact item_ret rfl rfl rfl KZ2.out ⟨rfl, below_three B2.out (by omega) _ _ _⟩
theorem itOk_d0 {k : Int} {x : It} (h : ItOk k x) (hd : x.d = 0) : x = noI := by
  rcases h with rfl | ⟨_, h1, _⟩ | ⟨_, h1⟩ | ⟨_, _, h1, _⟩
  · rfl
  · omega
  · have := isN_iff.1 h1; omega
  · omega
theorem implPln {kk : Int} (levels : List ByteArray) (x : It) (al : Option Addr) (cl lo hi : Nat) (w : World) (hL : TextsAt lo hi w al levels) (hhi : hi ≤ w.heap.size) (hx : ItOk kk x) (hl : LevOk levels.length x) (hn : levels.length ≤ 20) :
    Calls Tryz.prog 54 #[.agg #[.int .i64 x.n, .int .i64 x.d, .string x.t], .slice al levels.length cl] w fun e w' => e = .returned (.agg #[.int .i64 (plnI levels x).n, .int .i64 (plnI levels x).d, .string (plnI levels x).t]) ∧ Below w.heap.size w w' := by
  by_cases h : x.d = 0 ∨ levels.length = 0
  · rw [pln_same h]
    refine implPlnS x.n x.d x.t al levels.length cl w ?_
    by_cases hd : x.d = 0
    · have := itOk_d0 hx hd
      subst this
      exact .inl ⟨rfl, rfl, rfl⟩
    · exact .inr ⟨h.resolve_left hd, hd⟩
  · rw [pln_lev h]
    obtain ⟨h1, h2, h3⟩ : x.d = 1 ∧ 1 ≤ x.n ∧ x.n ≤ (levels.length : Int) := by
      rcases hl with h0 | h0 | h0
      · exact absurd (.inr h0) h
      · exact absurd (.inl h0) h
      · exact h0
    have hm : (x.n - 1).toNat < levels.length := by omega
    have hg : levels[(x.n - 1).toNat]? = some (levels.getD (x.n - 1).toNat ⟨#[]⟩) := by rw [List.getD_eq_getElem?_getD, List.getElem?_eq_getElem hm]; rfl
    obtain ⟨b, off, rfl, _, hb, hc⟩ := hL _ _ hg
    exact implPlnL x.n x.d x.t _ b off levels.length cl (x.n - 1).toNat w (by omega) (by omega) hm hn (by omega) hc
end Go.Proofs.YtikgcogiiohahaaGreatDoor

/- plainVector and convertVector of the program. -/
namespace Go.Proofs.YtikgcogiiohahaaGreatDoor
open Go.RowKit
set_option maxRecDepth 100000
set_option linter.unusedVariables false

theorem ResV.up {d : Nat} {V : Vec} {w W0 : World} {e : Ending} {w' : World} (h : ResV d V W0 e w') (b : Below w.heap.size w W0) : ResV d V w e w' := by
  obtain ⟨y, e1, ho, hb⟩ := h
  exact ⟨y, e1, ho.wide b.size (Nat.le_refl _), below_then b hb⟩
set_option maxHeartbeats 8000000 in
theorem implPlain (d : Nat) (kk : Int) (items : List It) (parts : List Vec) (names cls levels : List ByteArray) (code env : Int) (val : Value) (lo hi : Nat) (w : World) (hv : VecAt lo hi w d (.mk kk items parts names cls levels code env) val) (hhi : hi ≤ w.heap.size) (ok : AtmOk kk items levels) :
    Calls Tryz.prog 43 #[val] w (ResV 1 (vecOf (plnK kk levels) (plnL levels items)) w) := by
  obtain ⟨d', ai, ci, ap, cp, an, cn, ac, cc, al, cl, ed, rfl, hI, hN, hC, hL, hP⟩ := vecAt_open hv
  have AI := Lib.hid (fun (k : Nat) (w1 : World) (hk : k < items.length) (hb : Below w.heap.size w w1) => (hI.below hb hhi).at_ hk)
  have CI := Lib.hid (fun (k : Nat) (W : World) (hk : k < items.length) (hb : Below w.heap.size w W) => implPln levels (items.getD k noI) al cl lo hi W (hL.below hb hhi) (Nat.le_trans hhi hb.size) (ok.its k hk).1 (ok.its k hk).2 ok.llen)
  have li := ok.len
  have EV := Lib.hid (show vecOf (plnK kk levels) (plnL levels items) = mkN (plnK kk levels) (itF (fun i => plnI levels (items.getD i noI)) items.length) [] from rfl)
  obtain ⟨R, hR⟩ : ∃ R, vecOf (plnK kk levels) (plnL levels items) = R := ⟨_, rfl⟩
  rw [hR] at EV ⊢
  have HK : (levels.length = 0 ∧ kk = plnK kk levels) ∨ (¬ levels.length = 0 ∧ 3 = plnK kk levels) := by
    by_cases h : levels.length = 0
    · exact .inl ⟨h, (plnK_no h).symm⟩
    · exact .inr ⟨h, (plnK_yes h).symm⟩
  obtain ⟨K, hK⟩ : ∃ K, plnK kk levels = K := ⟨_, rfl⟩
  rw [hK] at EV HK
  clear hv hI hN hC hL hP ok ed hR hK
  obtain ⟨W0, hW0⟩ : ∃ W, w.alloc (.cells #[.int .i64 kk, .slice ai items.length ci, .slice ap parts.length cp, .slice an names.length cn, .slice ac cls.length cc, .slice al levels.length cl, .int .i64 code, .int .i64 env] 31) = W := ⟨_, rfl⟩
  have BW0 := Lib.hid (show Below w.heap.size w W0 from hW0 ▸ below1 w _)
  have SW0 := Lib.hid (show W0.heap.size = w.heap.size + 1 by rw [← hW0]; simp)
  have KARG0 := Lib.hid (show W0.heap[w.heap.size]? = some (.cells #[.int .i64 kk, .slice ai items.length ci, .slice ap parts.length cp, .slice an names.length cn, .slice ac cls.length cc, .slice al levels.length cl, .int .i64 code, .int .i64 env] 31 (0, 0)) from hW0 ▸ blk_new w _ rfl)
  have ST := Lib.hid (show AppN W0 ((W0.alloc (.cells #[.int .i64 0, .slice none 0 0, .slice none 0 0, .slice none 0 0, .slice none 0 0, .slice none 0 0, .int .i64 0, .int .i64 0] 31)).alloc (.cells #[.int .i64 K, .slice none 0 0, .slice none 0 0, .slice none 0 0, .slice none 0 0, .slice none 0 0, .int .i64 0, .int .i64 0] 31)) W0.heap.size (W0.heap.size + 1) K (itF (fun i => plnI levels (items.getD i noI)) 0) none 0 0 [] none 0 [] from
    ⟨blk_old (blk_new W0 _ rfl), blk_new _ _ (by simp), ⟨rfl, .inl ⟨rfl, rfl⟩⟩, .inl ⟨rfl, rfl⟩, Nat.le_refl _, List.nodup_nil, (fun _ h => by cases h), below2 W0 _ _, Nat.le_refl _, Nat.lt_succ_self _⟩)
  have EW := Lib.hid hW0
  clear hW0
  obtain ⟨n, hn⟩ : ∃ n, items.length = n := ⟨_, rfl⟩
  rw [hn] at AI CI KARG0 EW EV li ⊢
  clear hn
  obtain ⟨nl, hnl⟩ : ∃ nl, levels.length = nl := ⟨_, rfl⟩
  rw [hnl] at EW KARG0 CI HK ⊢
  clear hnl
  rcases HK with ⟨rfl, rfl⟩ | ⟨h0, rfl⟩
  · go_enter Tryz.func43, Tryz.ntmps43
    go_wp2
    rw [EW.out, ← SW0.out]
    obtain ⟨r, hr⟩ : ∃ r, W0.heap.size = r := ⟨_, rfl⟩
    rw [hr] at ST ⊢
    obtain ⟨b, hb⟩ : ∃ b, r + 1 = b := ⟨_, rfl⟩
    rw [hb] at ST ⊢
    clear hr hb EW
    go_loopw [17] (fun i wr => ∃ (k : Nat) (sa : Option Addr) (sn sc : Nat), k ≤ n ∧ i = .int .i64 k ∧ AppN W0 wr r b kk (itF (fun i => plnI levels (items.getD i noI)) k) sa sn sc [] none 0 []) (fun i _ => n - (intOf i).toNat)
    case atStart => exact ⟨0, none, 0, 0, Nat.zero_le _, rfl, ST.out⟩
    case round =>
      obtain ⟨k, sa, sn, sc, hk, rfl, hap⟩ := hrel
      have AP := Lib.hid hap
      clear hap
      by_cases hlt : k < n
      · obtain ⟨ba, off, rfl, hbB, c0, c1, c2⟩ := AI.out _ _ hlt (below_then BW0.out AP.out.below)
        have CK := Lib.hid (fun W hb => CI.out k W hlt hb)
        have NX := Lib.hid (itF_succ (fun i => plnI levels (items.getD i noI)) k)
        obtain ⟨z, hz⟩ : ∃ z : It, plnI levels (items.getD k noI) = z := ⟨_, rfl⟩
        rw [hz] at CK NX
        change wr.cell? _ = some (.string (items.getD k noI).t) at c2
        obtain ⟨x, hx⟩ : ∃ x : It, items.getD k noI = x := ⟨_, rfl⟩
        rw [hx] at c0 c1 c2 CK
        have LN := Lib.hid (show (itF (fun i => plnI levels (items.getD i noI)) k).length ≤ 1048576 by rw [itF_len]; omega)
        have hbw : ba < wr.heap.size := Nat.lt_of_lt_of_le (Nat.lt_of_lt_of_le hbB hhi) (below_then BW0.out AP.out.below).size
        have FAR := Lib.hid (fun (C : Array Value) (q : Nat × TypeId × Array Value) (hq : q ∈ (wr.heap.size, 45, C) :: (w.heap.size, 31, #[.int .i64 kk, .slice (some ⟨ba, off, none⟩) n ci, .slice ap parts.length cp, .slice an names.length cn, .slice ac cls.length cc, .slice al 0 cl, .int .i64 code, .int .i64 env]) :: [(r, 31, #[.int .i64 0, .slice none 0 0, .slice none 0 0, .slice none 0 0, .slice none 0 0, .slice none 0 0, .int .i64 0, .int .i64 0]), (b, 31, #[.int .i64 kk, .slice sa sn sc, .slice none 0 0, .slice none 0 0, .slice none 0 0, .slice none 0 0, .int .i64 0, .int .i64 0])]) (j : Nat) (hj : (Value.slice sa sn sc).ownBlock = some j) => (by
          rcases List.mem_cons.1 hq with rfl | hq
          · exact AP.out.far (C := C) (List.Mem.head _) j hj
          rcases List.mem_cons.1 hq with rfl | hq
          · have := (AP.out.row.lt j hj).1; have := AP.out.o1; have := AP.out.o2; have := SW0.out; simp only; omega
          · exact AP.out.far (C := C) (List.Mem.tail _ hq) j hj : q.1 ≠ j))
        have W0L := Lib.hid (show W0.heap.size ≤ b + 1 by have := AP.out.o1; have := AP.out.o2; omega)
        have B0L := Lib.hid (show W0.heap.size ≤ b by have := AP.out.o1; have := AP.out.o2; omega)
        have KA := Lib.hid (blk_below AP.out.below KARG0.out)
        have hbb := AP.out.big
        clear hx hz
        go_wp2
        obtain ⟨w5, hw5⟩ : ∃ W, wr.alloc (.cells #[.int .i64 x.n, .int .i64 x.d, .string x.t] 45) = W := ⟨_, rfl⟩
        have KA := Lib.hid (blk_below (show Below wr.heap.size wr w5 from hw5 ▸ below1 wr _) KA.out)
        have AP := Lib.hid (show AppN W0 w5 r b kk (itF (fun i => plnI levels (items.getD i noI)) k) sa sn sc [] none 0 [] from hw5 ▸ AP.out.keep (below1 wr _))
        have X1 := Lib.hid (show w5.heap[wr.heap.size]? = some (.cells #[.int .i64 x.n, .int .i64 x.d, .string x.t] 45 (0, 0)) from hw5 ▸ blk_new wr _ rfl)
        rw [hw5]
        clear hw5
        have H := Lib.hid (heldC_cons (heldC_cons AP.out.heldC KA.out) X1.out)
        refine run_region (ops := (opsOf Tryz.f43 7)) (S := fun w' => HeldC W0 w' ([(wr.heap.size, 45, #[.int .i64 x.n, .int .i64 x.d, .string x.t]), (w.heap.size, 31, #[.int .i64 kk, .slice (some ⟨ba, off, none⟩) n ci, .slice ap parts.length cp, .slice an names.length cn, .slice ac cls.length cc, .slice al 0 cl, .int .i64 code, .int .i64 env]), (r, 31, #[.int .i64 0, .slice none 0 0, .slice none 0 0, .slice none 0 0, .slice none 0 0, .slice none 0 0, .int .i64 0, .int .i64 0]), (b, 31, #[.int .i64 kk, .slice sa sn sc, .slice none 0 0, .slice none 0 0, .slice none 0 0, .slice none 0 0, .int .i64 0, .int .i64 0])])) [(0, true), (1, true), (2, true), (3, true), (4, true), (5, false), (6, false), (7, false), (8, true), (9, false)] (by kernel_rfl) (by kernel_rfl) (by kernel_rfl) (by kernel_rfl) (by kernel_rfl) (fun _ _ _ _ _ h => h) (heldC_drew H.out) ?_
        have H := Lib.hid (heldC_drew H.out)
        have AP := Lib.hid (AP.out.keep (below_drew' (Below.refl _ _)))
        refine runC_partV (b := b) (by kernel_rfl) (show opAt (opsOf Tryz.f43 7) 0 = some (some 21, .fieldAddr 31 (.tmp 3) 1, none) from by kernel_rfl) (by kernel_rfl) (by kernel_rfl) (by kernel_rfl) ?_
        refine runC_cell (b := b) (j := 1) (v := .slice sa sn sc) load_its (show opAt (opsOf Tryz.f43 7) 1 = some (some 22, .load 28 (.tmp 21), none) from by kernel_rfl) (by kernel_rfl) (by kernel_rfl) (by kernel_rfl) (List.Mem.tail _ (List.Mem.tail _ (List.Mem.tail _ (List.Mem.head _)))) rfl ?_
        refine runC_itm (b := wr.heap.size) (show opAt (opsOf Tryz.f43 7) 2 = some (some 23, .load 45 (.tmp 5), none) from by kernel_rfl) (by kernel_rfl) (by kernel_rfl) (by kernel_rfl) (List.Mem.head _) ?_
        refine runC_partV (b := w.heap.size) (by kernel_rfl) (show opAt (opsOf Tryz.f43 7) 3 = some (some 24, .fieldAddr 31 (.tmp 1) 5, none) from by kernel_rfl) (by kernel_rfl) (by kernel_rfl) (by kernel_rfl) ?_
        refine runC_cell (b := w.heap.size) (j := 5) (v := .slice al 0 cl) load_strs (show opAt (opsOf Tryz.f43 7) 4 = some (some 25, .load 24 (.tmp 24), none) from by kernel_rfl) (by kernel_rfl) (by kernel_rfl) (by kernel_rfl) (List.Mem.tail _ (List.Mem.head _)) rfl ?_
        refine run_call (args := [.agg #[.int .i64 x.n, .int .i64 x.d, .string x.t], .slice al 0 cl]) (show opAt (opsOf Tryz.f43 7) 5 = some (some 26, .call { callee := .value (.func 54), args := [(.tmp 23), (.tmp 25)].toArray, argTypes := [45, 24].toArray }, none) from by kernel_rfl) (by kernel_rfl) (by kernel_rfl) (by kernel_rfl) (by kernel_rfl) ?_
        refine (CK.out _ (below_then BW0.out H.out.1)).mono ?_
        rintro en rw1 ⟨rfl, hb⟩
        refine ⟨_, rfl, heldC_call H.out hb, ?_⟩
        have H := Lib.hid (heldC_call H.out hb)
        have AP := Lib.hid (AP.out.keep hb)
        clear hb
        refine tail_item2 z (show opAt (opsOf Tryz.f43 7) 6 = some (some 27, .buildSlice 28 1 #[(0, (.tmp 26))], none) from by kernel_rfl) (by kernel_rfl) (by kernel_rfl) (show opAt (opsOf Tryz.f43 7) 7 = some (some 28, .call { callee := .builtin .append, args := [(.tmp 22), (.tmp 27)].toArray, argTypes := [28, 28].toArray }, none) from by kernel_rfl) (by kernel_rfl) (fun _ => by kernel_rfl) (show opAt (opsOf Tryz.f43 7) 8 = some (some 29, .fieldAddr 31 (.tmp 3) 1, none) from by kernel_rfl) (by kernel_rfl) (by kernel_rfl) (fun _ _ => by kernel_rfl) (show opAt (opsOf Tryz.f43 7) 9 = some (none, .store 28 (.tmp 29) (.tmp 28), none) from by kernel_rfl) (by kernel_rfl) (by kernel_rfl) H.out AP.out.row LN.out (Nat.succ_le_of_lt (Array.getElem?_eq_some_iff.1 (heldC_at H.out (List.Mem.tail _ (List.Mem.tail _ (List.Mem.tail _ (List.Mem.head _)))))).1) W0L.out (List.Mem.tail _ (List.Mem.tail _ (List.Mem.tail _ (List.Mem.head _)))) rfl (Nat.lt_succ_self _) B0L.out (fun q hq => FAR.out _ q hq) ?_
        rintro v' w2 ⟨sa, sn, sc, rfl⟩ hK hO hB hZ hR hG
        simp only [putAll, Act.put, List.setIfInBounds_toArray, List.set_cons_zero, List.set_cons_succ]
        have AN := Lib.hid (AP.out.next hK hO hB (hR _ (List.Mem.tail _ (List.Mem.tail _ (List.Mem.head _))) (by have := AP.out.o2; simp only; omega)) (fun g hg => hG g (by have := AP.out.rng g hg; have := AP.out.big; omega) (by have := AP.out.rng g hg; omega) (fun j hj => by have := (AP.out.row.lt j hj).1; have := AP.out.rng g hg; omega)))
        clear hK hO hB hR hG H FAR LN
        go_wp2
        go_roundw
        case rel => exact ⟨k + 1, sa, sn, sc, by omega, by go_num, NX.out ▸ AN.out⟩
        case measure => simp [intOf]; omega
      · obtain rfl : k = n := by omega
        have K1 := Lib.hid AP.out.vec
        have K0 := Lib.hid AP.out.res
        have FN := Lib.hid AP.out.fin
        obtain ⟨k0, k1, k2, k3, k4, k5, k6, k7⟩ := vec8 K1.out
        obtain ⟨z0, z1, z2, z3, z4, z5, z6, z7⟩ := vec8 K0.out
        obtain ⟨f0, f1, f2, f3, f4, f5, f6, f7⟩ := free8 K0.out
        go_wp2
        rw [EV.out]
        exact vec_end rfl rfl rfl K0.out (FN.out.up BW0.out)
  · have hl0 : 0 < (nl : Int) := by omega
    go_enter Tryz.func43, Tryz.ntmps43
    go_wp2
    rw [EW.out, ← SW0.out]
    obtain ⟨r, hr⟩ : ∃ r, W0.heap.size = r := ⟨_, rfl⟩
    rw [hr] at ST ⊢
    obtain ⟨b, hb⟩ : ∃ b, r + 1 = b := ⟨_, rfl⟩
    rw [hb] at ST ⊢
    clear hr hb EW
    go_loopw [17] (fun i wr => ∃ (k : Nat) (sa : Option Addr) (sn sc : Nat), k ≤ n ∧ i = .int .i64 k ∧ AppN W0 wr r b 3 (itF (fun i => plnI levels (items.getD i noI)) k) sa sn sc [] none 0 []) (fun i _ => n - (intOf i).toNat)
    case atStart => exact ⟨0, none, 0, 0, Nat.zero_le _, rfl, ST.out⟩
    case round =>
      obtain ⟨k, sa, sn, sc, hk, rfl, hap⟩ := hrel
      have AP := Lib.hid hap
      clear hap
      by_cases hlt : k < n
      · obtain ⟨ba, off, rfl, hbB, c0, c1, c2⟩ := AI.out _ _ hlt (below_then BW0.out AP.out.below)
        have CK := Lib.hid (fun W hb => CI.out k W hlt hb)
        have NX := Lib.hid (itF_succ (fun i => plnI levels (items.getD i noI)) k)
        obtain ⟨z, hz⟩ : ∃ z : It, plnI levels (items.getD k noI) = z := ⟨_, rfl⟩
        rw [hz] at CK NX
        change wr.cell? _ = some (.string (items.getD k noI).t) at c2
        obtain ⟨x, hx⟩ : ∃ x : It, items.getD k noI = x := ⟨_, rfl⟩
        rw [hx] at c0 c1 c2 CK
        have LN := Lib.hid (show (itF (fun i => plnI levels (items.getD i noI)) k).length ≤ 1048576 by rw [itF_len]; omega)
        have hbw : ba < wr.heap.size := Nat.lt_of_lt_of_le (Nat.lt_of_lt_of_le hbB hhi) (below_then BW0.out AP.out.below).size
        have FAR := Lib.hid (fun (C : Array Value) (q : Nat × TypeId × Array Value) (hq : q ∈ (wr.heap.size, 45, C) :: (w.heap.size, 31, #[.int .i64 kk, .slice (some ⟨ba, off, none⟩) n ci, .slice ap parts.length cp, .slice an names.length cn, .slice ac cls.length cc, .slice al nl cl, .int .i64 code, .int .i64 env]) :: [(r, 31, #[.int .i64 0, .slice none 0 0, .slice none 0 0, .slice none 0 0, .slice none 0 0, .slice none 0 0, .int .i64 0, .int .i64 0]), (b, 31, #[.int .i64 3, .slice sa sn sc, .slice none 0 0, .slice none 0 0, .slice none 0 0, .slice none 0 0, .int .i64 0, .int .i64 0])]) (j : Nat) (hj : (Value.slice sa sn sc).ownBlock = some j) => (by
          rcases List.mem_cons.1 hq with rfl | hq
          · exact AP.out.far (C := C) (List.Mem.head _) j hj
          rcases List.mem_cons.1 hq with rfl | hq
          · have := (AP.out.row.lt j hj).1; have := AP.out.o1; have := AP.out.o2; have := SW0.out; simp only; omega
          · exact AP.out.far (C := C) (List.Mem.tail _ hq) j hj : q.1 ≠ j))
        have W0L := Lib.hid (show W0.heap.size ≤ b + 1 by have := AP.out.o1; have := AP.out.o2; omega)
        have B0L := Lib.hid (show W0.heap.size ≤ b by have := AP.out.o1; have := AP.out.o2; omega)
        have KA := Lib.hid (blk_below AP.out.below KARG0.out)
        have hbb := AP.out.big
        clear hx hz
        go_wp2
        obtain ⟨w5, hw5⟩ : ∃ W, wr.alloc (.cells #[.int .i64 x.n, .int .i64 x.d, .string x.t] 45) = W := ⟨_, rfl⟩
        have KA := Lib.hid (blk_below (show Below wr.heap.size wr w5 from hw5 ▸ below1 wr _) KA.out)
        have AP := Lib.hid (show AppN W0 w5 r b 3 (itF (fun i => plnI levels (items.getD i noI)) k) sa sn sc [] none 0 [] from hw5 ▸ AP.out.keep (below1 wr _))
        have X1 := Lib.hid (show w5.heap[wr.heap.size]? = some (.cells #[.int .i64 x.n, .int .i64 x.d, .string x.t] 45 (0, 0)) from hw5 ▸ blk_new wr _ rfl)
        rw [hw5]
        clear hw5
        have H := Lib.hid (heldC_cons (heldC_cons AP.out.heldC KA.out) X1.out)
        refine run_region (ops := (opsOf Tryz.f43 7)) (S := fun w' => HeldC W0 w' ([(wr.heap.size, 45, #[.int .i64 x.n, .int .i64 x.d, .string x.t]), (w.heap.size, 31, #[.int .i64 kk, .slice (some ⟨ba, off, none⟩) n ci, .slice ap parts.length cp, .slice an names.length cn, .slice ac cls.length cc, .slice al nl cl, .int .i64 code, .int .i64 env]), (r, 31, #[.int .i64 0, .slice none 0 0, .slice none 0 0, .slice none 0 0, .slice none 0 0, .slice none 0 0, .int .i64 0, .int .i64 0]), (b, 31, #[.int .i64 3, .slice sa sn sc, .slice none 0 0, .slice none 0 0, .slice none 0 0, .slice none 0 0, .int .i64 0, .int .i64 0])])) [(0, true), (1, true), (2, true), (3, true), (4, true), (5, false), (6, false), (7, false), (8, true), (9, false)] (by kernel_rfl) (by kernel_rfl) (by kernel_rfl) (by kernel_rfl) (by kernel_rfl) (fun _ _ _ _ _ h => h) (heldC_drew H.out) ?_
        have H := Lib.hid (heldC_drew H.out)
        have AP := Lib.hid (AP.out.keep (below_drew' (Below.refl _ _)))
        refine runC_partV (b := b) (by kernel_rfl) (show opAt (opsOf Tryz.f43 7) 0 = some (some 21, .fieldAddr 31 (.tmp 3) 1, none) from by kernel_rfl) (by kernel_rfl) (by kernel_rfl) (by kernel_rfl) ?_
        refine runC_cell (b := b) (j := 1) (v := .slice sa sn sc) load_its (show opAt (opsOf Tryz.f43 7) 1 = some (some 22, .load 28 (.tmp 21), none) from by kernel_rfl) (by kernel_rfl) (by kernel_rfl) (by kernel_rfl) (List.Mem.tail _ (List.Mem.tail _ (List.Mem.tail _ (List.Mem.head _)))) rfl ?_
        refine runC_itm (b := wr.heap.size) (show opAt (opsOf Tryz.f43 7) 2 = some (some 23, .load 45 (.tmp 5), none) from by kernel_rfl) (by kernel_rfl) (by kernel_rfl) (by kernel_rfl) (List.Mem.head _) ?_
        refine runC_partV (b := w.heap.size) (by kernel_rfl) (show opAt (opsOf Tryz.f43 7) 3 = some (some 24, .fieldAddr 31 (.tmp 1) 5, none) from by kernel_rfl) (by kernel_rfl) (by kernel_rfl) (by kernel_rfl) ?_
        refine runC_cell (b := w.heap.size) (j := 5) (v := .slice al nl cl) load_strs (show opAt (opsOf Tryz.f43 7) 4 = some (some 25, .load 24 (.tmp 24), none) from by kernel_rfl) (by kernel_rfl) (by kernel_rfl) (by kernel_rfl) (List.Mem.tail _ (List.Mem.head _)) rfl ?_
        refine run_call (args := [.agg #[.int .i64 x.n, .int .i64 x.d, .string x.t], .slice al nl cl]) (show opAt (opsOf Tryz.f43 7) 5 = some (some 26, .call { callee := .value (.func 54), args := [(.tmp 23), (.tmp 25)].toArray, argTypes := [45, 24].toArray }, none) from by kernel_rfl) (by kernel_rfl) (by kernel_rfl) (by kernel_rfl) (by kernel_rfl) ?_
        refine (CK.out _ (below_then BW0.out H.out.1)).mono ?_
        rintro en rw1 ⟨rfl, hb⟩
        refine ⟨_, rfl, heldC_call H.out hb, ?_⟩
        have H := Lib.hid (heldC_call H.out hb)
        have AP := Lib.hid (AP.out.keep hb)
        clear hb
        refine tail_item2 z (show opAt (opsOf Tryz.f43 7) 6 = some (some 27, .buildSlice 28 1 #[(0, (.tmp 26))], none) from by kernel_rfl) (by kernel_rfl) (by kernel_rfl) (show opAt (opsOf Tryz.f43 7) 7 = some (some 28, .call { callee := .builtin .append, args := [(.tmp 22), (.tmp 27)].toArray, argTypes := [28, 28].toArray }, none) from by kernel_rfl) (by kernel_rfl) (fun _ => by kernel_rfl) (show opAt (opsOf Tryz.f43 7) 8 = some (some 29, .fieldAddr 31 (.tmp 3) 1, none) from by kernel_rfl) (by kernel_rfl) (by kernel_rfl) (fun _ _ => by kernel_rfl) (show opAt (opsOf Tryz.f43 7) 9 = some (none, .store 28 (.tmp 29) (.tmp 28), none) from by kernel_rfl) (by kernel_rfl) (by kernel_rfl) H.out AP.out.row LN.out (Nat.succ_le_of_lt (Array.getElem?_eq_some_iff.1 (heldC_at H.out (List.Mem.tail _ (List.Mem.tail _ (List.Mem.tail _ (List.Mem.head _)))))).1) W0L.out (List.Mem.tail _ (List.Mem.tail _ (List.Mem.tail _ (List.Mem.head _)))) rfl (Nat.lt_succ_self _) B0L.out (fun q hq => FAR.out _ q hq) ?_
        rintro v' w2 ⟨sa, sn, sc, rfl⟩ hK hO hB hZ hR hG
        simp only [putAll, Act.put, List.setIfInBounds_toArray, List.set_cons_zero, List.set_cons_succ]
        have AN := Lib.hid (AP.out.next hK hO hB (hR _ (List.Mem.tail _ (List.Mem.tail _ (List.Mem.head _))) (by have := AP.out.o2; simp only; omega)) (fun g hg => hG g (by have := AP.out.rng g hg; have := AP.out.big; omega) (by have := AP.out.rng g hg; omega) (fun j hj => by have := (AP.out.row.lt j hj).1; have := AP.out.rng g hg; omega)))
        clear hK hO hB hR hG H FAR LN
        go_wp2
        go_roundw
        case rel => exact ⟨k + 1, sa, sn, sc, by omega, by go_num, NX.out ▸ AN.out⟩
        case measure => simp [intOf]; omega
      · obtain rfl : k = n := by omega
        have K1 := Lib.hid AP.out.vec
        have K0 := Lib.hid AP.out.res
        have FN := Lib.hid AP.out.fin
        obtain ⟨k0, k1, k2, k3, k4, k5, k6, k7⟩ := vec8 K1.out
        obtain ⟨z0, z1, z2, z3, z4, z5, z6, z7⟩ := vec8 K0.out
        obtain ⟨f0, f1, f2, f3, f4, f5, f6, f7⟩ := free8 K0.out
        go_wp2
        rw [EV.out]
        exact vec_end rfl rfl rfl K0.out (FN.out.up BW0.out)
set_option maxHeartbeats 8000000 in
theorem implConv (d : Nat) (kk j : Int) (items : List It) (parts : List Vec) (names cls levels : List ByteArray) (code env : Int) (val : Value) (lo hi : Nat) (w : World) (hv : VecAt lo hi w d (.mk kk items parts names cls levels code env) val) (hhi : hi ≤ w.heap.size) (hk0 : 0 ≤ kk) (hkj : kk ≤ j) (hj : j ≤ 3) (li : items.length ≤ 40) (ln : names.length ≤ 1048576) (hit : ∀ i, i < items.length → ItOk kk (items.getD i noI)) (tab : Lib.TabIs Tryz.prog w "internal/strconv.uint64pow10" .u64 Lib.pow10Tab) :
    Calls Tryz.prog 45 #[val, .int .i64 j] w (ResV 1 (mkN j (cnvL kk j items) names) w) := by
  obtain ⟨d', ai, ci, ap, cp, an, cn, ac, cc, al, cl, ed, rfl, hI, hN, hC, hL, hP⟩ := vecAt_open hv
  have AI := Lib.hid (fun (k : Nat) (w1 : World) (hk : k < items.length) (hb : Below w.heap.size w w1) => (hI.below hb hhi).at_ hk)
  have CI := Lib.hid (fun (k : Nat) (W : World) (hk : k < items.length) (hb : Below w.heap.size w W) => implCnv kk j (items.getD k noI) W (hit k hk) hk0 hkj hj (tab_below tab hb))
  have CC := Lib.hid (fun (w1 : World) (hb : Below w.heap.size w w1) => implCopyAny names an cn lo hi w1 (hN.below hb hhi) ln)
  have EV := Lib.hid (show mkN j (cnvL kk j items) names = mkN j (itF (fun i => cnvI kk j (items.getD i noI)) items.length) names from rfl)
  obtain ⟨R, hR⟩ : ∃ R, mkN j (cnvL kk j items) names = R := ⟨_, rfl⟩
  rw [hR] at EV ⊢
  have hj4 : (j == 4) = false := by simp only [beq_eq_false_iff_ne, ne_eq]; omega
  clear hv hI hN hC hL hP ed hR hk0 hkj hit tab
  obtain ⟨W0, hW0⟩ : ∃ W, w.alloc (.cells #[.int .i64 kk, .slice ai items.length ci, .slice ap parts.length cp, .slice an names.length cn, .slice ac cls.length cc, .slice al levels.length cl, .int .i64 code, .int .i64 env] 31) = W := ⟨_, rfl⟩
  have BW0 := Lib.hid (show Below w.heap.size w W0 from hW0 ▸ below1 w _)
  have SW0 := Lib.hid (show W0.heap.size = w.heap.size + 1 by rw [← hW0]; simp)
  have KARG0 := Lib.hid (show W0.heap[w.heap.size]? = some (.cells #[.int .i64 kk, .slice ai items.length ci, .slice ap parts.length cp, .slice an names.length cn, .slice ac cls.length cc, .slice al levels.length cl, .int .i64 code, .int .i64 env] 31 (0, 0)) from hW0 ▸ blk_new w _ rfl)
  have EW := Lib.hid hW0
  clear hW0
  obtain ⟨n, hn⟩ : ∃ n, items.length = n := ⟨_, rfl⟩
  rw [hn] at AI CI KARG0 EW EV li ⊢
  clear hn
  go_enter Tryz.func45, Tryz.ntmps45
  go_wp2_with fail
  rw [EW.out]
  obtain ⟨w1, hw1⟩ : ∃ W, W0.alloc (.cells #[.int .i64 0, .slice none 0 0, .slice none 0 0, .slice none 0 0, .slice none 0 0, .slice none 0 0, .int .i64 0, .int .i64 0] 31) = W := ⟨_, rfl⟩
  have B1 := Lib.hid (show Below W0.heap.size W0 w1 from hw1 ▸ below1 W0 _)
  have KZ1 := Lib.hid (show w1.heap[W0.heap.size]? = some (.cells #[.int .i64 0, .slice none 0 0, .slice none 0 0, .slice none 0 0, .slice none 0 0, .slice none 0 0, .int .i64 0, .int .i64 0] 31 (0, 0)) from hw1 ▸ blk_new W0 _ rfl)
  have S1 : w1.heap.size = W0.heap.size + 1 := by rw [← hw1]; simp
  rw [hw1]
  clear hw1
  with_reducible refine (CC.out _ (below_then BW0.out B1.out)).mono ?_
  rintro e w4 ⟨v, rfl, ⟨na, nc, F, rfl, hT, hnd, hr, hcap⟩, b⟩
  have B4 := Lib.hid (below_then B1.out b)
  have KZ4 := Lib.hid (blk_below b KZ1.out)
  have KARG4 := Lib.hid (blk_below B4.out KARG0.out)
  have S4 := b.size
  have ST := Lib.hid (show AppN W0 (w4.alloc (.cells #[.int .i64 j, .slice none 0 0, .slice none 0 0, .slice na names.length nc, .slice none 0 0, .slice none 0 0, .int .i64 0, .int .i64 0] 31)) W0.heap.size w4.heap.size j (itF (fun i => cnvI kk j (items.getD i noI)) 0) none 0 0 names na nc F from
    ⟨blk_old KZ4.out, blk_new w4 _ rfl, ⟨rfl, .inl ⟨rfl, rfl⟩⟩, hT.kept (fun g hg => (below1 w4 _).block g (hr g hg).2), hcap, hnd, (fun g hg => by have h1 := hr g hg; omega), B4.out.alloc B4.out.size _, Nat.le_refl _, by omega⟩)
  clear b hT hnd hr hcap S4 S1
  have hltA := (Array.getElem?_eq_some_iff.1 KARG4.out).1
  obtain ⟨k0, k1, k2, k3, k4, k5, k6, k7⟩ := vec8 KARG4.out
  go_wp2
  rw [← SW0.out]
  clear k0 k1 k2 k3 k4 k5 k6 k7 hltA
  obtain ⟨r, hr⟩ : ∃ r, W0.heap.size = r := ⟨_, rfl⟩
  rw [hr] at ST ⊢
  obtain ⟨b, hb⟩ : ∃ b, w4.heap.size = b := ⟨_, rfl⟩
  rw [hb] at ST ⊢
  clear hr hb EW
  go_loopw [22] (fun i wr => ∃ (k : Nat) (sa : Option Addr) (sn sc : Nat), k ≤ n ∧ i = .int .i64 k ∧ AppN W0 wr r b j (itF (fun i => cnvI kk j (items.getD i noI)) k) sa sn sc names na nc F) (fun i _ => n - (intOf i).toNat)
  case atStart => exact ⟨0, none, 0, 0, Nat.zero_le _, rfl, ST.out⟩
  case round =>
    obtain ⟨k, sa, sn, sc, hk, rfl, hap⟩ := hrel
    have AP := Lib.hid hap
    clear hap
    by_cases hlt : k < n
    · obtain ⟨ba, off, rfl, hbB, c0, c1, c2⟩ := AI.out _ _ hlt (below_then BW0.out AP.out.below)
      have CK := Lib.hid (fun W hb => CI.out k W hlt hb)
      have NX := Lib.hid (itF_succ (fun i => cnvI kk j (items.getD i noI)) k)
      obtain ⟨z, hz⟩ : ∃ z : It, cnvI kk j (items.getD k noI) = z := ⟨_, rfl⟩
      rw [hz] at CK NX
      change wr.cell? _ = some (.string (items.getD k noI).t) at c2
      obtain ⟨x, hx⟩ : ∃ x : It, items.getD k noI = x := ⟨_, rfl⟩
      rw [hx] at c0 c1 c2 CK
      have LN := Lib.hid (show (itF (fun i => cnvI kk j (items.getD i noI)) k).length ≤ 1048576 by rw [itF_len]; omega)
      have hbw : ba < wr.heap.size := Nat.lt_of_lt_of_le (Nat.lt_of_lt_of_le hbB hhi) (below_then BW0.out AP.out.below).size
      have FAR := Lib.hid (fun (C : Array Value) (q : Nat × TypeId × Array Value) (hq : q ∈ (wr.heap.size, 45, C) :: (w.heap.size, 31, #[.int .i64 kk, .slice (some ⟨ba, off, none⟩) n ci, .slice ap parts.length cp, .slice an names.length cn, .slice ac cls.length cc, .slice al levels.length cl, .int .i64 code, .int .i64 env]) :: [(r, 31, #[.int .i64 0, .slice none 0 0, .slice none 0 0, .slice none 0 0, .slice none 0 0, .slice none 0 0, .int .i64 0, .int .i64 0]), (b, 31, #[.int .i64 j, .slice sa sn sc, .slice none 0 0, .slice na names.length nc, .slice none 0 0, .slice none 0 0, .int .i64 0, .int .i64 0])]) (j : Nat) (hj : (Value.slice sa sn sc).ownBlock = some j) => (by
        rcases List.mem_cons.1 hq with rfl | hq
        · exact AP.out.far (C := C) (List.Mem.head _) j hj
        rcases List.mem_cons.1 hq with rfl | hq
        · have := (AP.out.row.lt j hj).1; have := AP.out.o1; have := AP.out.o2; have := SW0.out; simp only; omega
        · exact AP.out.far (C := C) (List.Mem.tail _ hq) j hj : q.1 ≠ j))
      have W0L := Lib.hid (show W0.heap.size ≤ b + 1 by have := AP.out.o1; have := AP.out.o2; omega)
      have B0L := Lib.hid (show W0.heap.size ≤ b by have := AP.out.o1; have := AP.out.o2; omega)
      have KA := Lib.hid (blk_below AP.out.below KARG0.out)
      have hbb := AP.out.big
      clear hx hz
      go_wp2
      obtain ⟨w5, hw5⟩ : ∃ W, wr.alloc (.cells #[.int .i64 x.n, .int .i64 x.d, .string x.t] 45) = W := ⟨_, rfl⟩
      have KA := Lib.hid (blk_below (show Below wr.heap.size wr w5 from hw5 ▸ below1 wr _) KA.out)
      have AP := Lib.hid (show AppN W0 w5 r b j (itF (fun i => cnvI kk j (items.getD i noI)) k) sa sn sc names na nc F from hw5 ▸ AP.out.keep (below1 wr _))
      have X1 := Lib.hid (show w5.heap[wr.heap.size]? = some (.cells #[.int .i64 x.n, .int .i64 x.d, .string x.t] 45 (0, 0)) from hw5 ▸ blk_new wr _ rfl)
      rw [hw5]
      clear hw5
      have H := Lib.hid (heldC_cons (heldC_cons AP.out.heldC KA.out) X1.out)
      refine run_region (ops := (opsOf Tryz.f45 8)) (S := fun w' => HeldC W0 w' ([(wr.heap.size, 45, #[.int .i64 x.n, .int .i64 x.d, .string x.t]), (w.heap.size, 31, #[.int .i64 kk, .slice (some ⟨ba, off, none⟩) n ci, .slice ap parts.length cp, .slice an names.length cn, .slice ac cls.length cc, .slice al levels.length cl, .int .i64 code, .int .i64 env]), (r, 31, #[.int .i64 0, .slice none 0 0, .slice none 0 0, .slice none 0 0, .slice none 0 0, .slice none 0 0, .int .i64 0, .int .i64 0]), (b, 31, #[.int .i64 j, .slice sa sn sc, .slice none 0 0, .slice na names.length nc, .slice none 0 0, .slice none 0 0, .int .i64 0, .int .i64 0])])) [(0, true), (1, true), (2, true), (3, true), (4, true), (5, true), (6, false), (7, false), (8, false), (9, true), (10, false)] (by kernel_rfl) (by kernel_rfl) (by kernel_rfl) (by kernel_rfl) (by kernel_rfl) (fun _ _ _ _ _ h => h) (heldC_drew H.out) ?_
      have H := Lib.hid (heldC_drew H.out)
      have AP := Lib.hid (AP.out.keep (below_drew' (Below.refl _ _)))
      refine runC_partV (b := b) (by kernel_rfl) (show opAt (opsOf Tryz.f45 8) 0 = some (some 26, .fieldAddr 31 (.tmp 5) 1, none) from by kernel_rfl) (by kernel_rfl) (by kernel_rfl) (by kernel_rfl) ?_
      refine runC_cell (b := b) (j := 1) (v := .slice sa sn sc) load_its (show opAt (opsOf Tryz.f45 8) 1 = some (some 27, .load 28 (.tmp 26), none) from by kernel_rfl) (by kernel_rfl) (by kernel_rfl) (by kernel_rfl) (List.Mem.tail _ (List.Mem.tail _ (List.Mem.tail _ (List.Mem.head _)))) rfl ?_
      refine runC_itm (b := wr.heap.size) (show opAt (opsOf Tryz.f45 8) 2 = some (some 28, .load 45 (.tmp 7), none) from by kernel_rfl) (by kernel_rfl) (by kernel_rfl) (by kernel_rfl) (List.Mem.head _) ?_
      refine runC_partV (b := w.heap.size) (by kernel_rfl) (show opAt (opsOf Tryz.f45 8) 3 = some (some 29, .fieldAddr 31 (.tmp 2) 0, none) from by kernel_rfl) (by kernel_rfl) (by kernel_rfl) (by kernel_rfl) ?_
      refine runC_cell (b := w.heap.size) (j := 0) (v := .int .i64 kk) load_int (show opAt (opsOf Tryz.f45 8) 4 = some (some 30, .load 3 (.tmp 29), none) from by kernel_rfl) (by kernel_rfl) (by kernel_rfl) (by kernel_rfl) (List.Mem.tail _ (List.Mem.head _)) rfl ?_
      refine run_mov (v := .int .i64 j) (show opAt (opsOf Tryz.f45 8) 5 = some (some 31, .move (.tmp 1), none) from by kernel_rfl) (by kernel_rfl) (by kernel_rfl) (by kernel_rfl) ?_
      refine run_call (args := [.agg #[.int .i64 x.n, .int .i64 x.d, .string x.t], .int .i64 kk, .int .i64 j]) (show opAt (opsOf Tryz.f45 8) 6 = some (some 32, .call { callee := .value (.func 57), args := [(.tmp 28), (.tmp 30), (.tmp 31)].toArray, argTypes := [45, 3, 3].toArray }, none) from by kernel_rfl) (by kernel_rfl) (by kernel_rfl) (by kernel_rfl) (by kernel_rfl) ?_
      refine (CK.out _ (below_then BW0.out H.out.1)).mono ?_
      rintro en rw1 ⟨rfl, hb⟩
      refine ⟨_, rfl, heldC_call H.out hb, ?_⟩
      have H := Lib.hid (heldC_call H.out hb)
      have AP := Lib.hid (AP.out.keep hb)
      clear hb
      refine tail_item2 z (show opAt (opsOf Tryz.f45 8) 7 = some (some 33, .buildSlice 28 1 #[(0, (.tmp 32))], none) from by kernel_rfl) (by kernel_rfl) (by kernel_rfl) (show opAt (opsOf Tryz.f45 8) 8 = some (some 34, .call { callee := .builtin .append, args := [(.tmp 27), (.tmp 33)].toArray, argTypes := [28, 28].toArray }, none) from by kernel_rfl) (by kernel_rfl) (fun _ => by kernel_rfl) (show opAt (opsOf Tryz.f45 8) 9 = some (some 35, .fieldAddr 31 (.tmp 5) 1, none) from by kernel_rfl) (by kernel_rfl) (by kernel_rfl) (fun _ _ => by kernel_rfl) (show opAt (opsOf Tryz.f45 8) 10 = some (none, .store 28 (.tmp 35) (.tmp 34), none) from by kernel_rfl) (by kernel_rfl) (by kernel_rfl) H.out AP.out.row LN.out (Nat.succ_le_of_lt (Array.getElem?_eq_some_iff.1 (heldC_at H.out (List.Mem.tail _ (List.Mem.tail _ (List.Mem.tail _ (List.Mem.head _)))))).1) W0L.out (List.Mem.tail _ (List.Mem.tail _ (List.Mem.tail _ (List.Mem.head _)))) rfl (Nat.lt_succ_self _) B0L.out (fun q hq => FAR.out _ q hq) ?_
      rintro v' w2 ⟨sa, sn, sc, rfl⟩ hK hO hB hZ hR hG
      simp only [putAll, Act.put, List.setIfInBounds_toArray, List.set_cons_zero, List.set_cons_succ]
      have AN := Lib.hid (AP.out.next hK hO hB (hR _ (List.Mem.tail _ (List.Mem.tail _ (List.Mem.head _))) (by have := AP.out.o2; simp only; omega)) (fun g hg => hG g (by have := AP.out.rng g hg; have := AP.out.big; omega) (by have := AP.out.rng g hg; omega) (fun j hj => by have := (AP.out.row.lt j hj).1; have := AP.out.rng g hg; omega)))
      clear hK hO hB hR hG H FAR LN
      go_wp2
      go_roundw
      case rel => exact ⟨k + 1, sa, sn, sc, by omega, by go_num, NX.out ▸ AN.out⟩
      case measure => simp [intOf]; omega
    · obtain rfl : k = n := by omega
      have K1 := Lib.hid AP.out.vec
      have K0 := Lib.hid AP.out.res
      have FN := Lib.hid AP.out.fin
      obtain ⟨k0, k1, k2, k3, k4, k5, k6, k7⟩ := vec8 K1.out
      obtain ⟨z0, z1, z2, z3, z4, z5, z6, z7⟩ := vec8 K0.out
      obtain ⟨f0, f1, f2, f3, f4, f5, f6, f7⟩ := free8 K0.out
      go_wp2
      rw [EV.out]
      exact vec_end rfl rfl rfl K0.out (FN.out.up BW0.out)
end Go.Proofs.YtikgcogiiohahaaGreatDoor

/- ChooseVector as data; small parts of the program's. -/
namespace Go.Proofs.YtikgcogiiohahaaGreatDoor
open Go.RowKit
set_option maxRecDepth 100000
set_option linter.unusedVariables false

def zrpB : ByteArray := ⟨#[114, 101, 112, 108, 97, 99, 101, 109, 101, 110, 116, 32, 104, 97, 115, 32, 108, 101, 110, 103, 116, 104, 32, 122, 101, 114, 111]⟩
def levV (v : Vec) : List ByteArray := match v with | .mk _ _ _ _ _ levels _ _ => levels
/-- What a truth value chooses. -/
def chsI (l : Int) (y n : It) : It := if l = 1 then y else if l = 0 then n else noI
def maxI (a b : Int) : Int := if a < b then b else a
theorem maxI_le {a b c : Int} (h : a ≤ c) (h' : b ≤ c) : maxI a b ≤ c := by unfold maxI; split <;> omega
theorem maxI_l (a b : Int) : a ≤ maxI a b := by unfold maxI; split <;> omega
theorem maxI_r (a b : Int) : b ≤ maxI a b := by unfold maxI; split <;> omega
/-- The kind of what is chosen from. -/
def chK (y n : Vec) : Int := maxI (plnK (kindV y) (levV y)) (plnK (kindV n) (levV n))
/-- The elements of v, without levels, of kind j. -/
def chP (v : Vec) (j : Int) : List It := cnvL (plnK (kindV v) (levV v)) j (plnL (levV v) (itemsV v))
theorem chP_len (v : Vec) (j : Int) : (chP v j).length = (itemsV v).length := by unfold chP; rw [cnvL_len, plnL_len]
def chF (t : Vec) (Y N : List It) (i : Nat) : It := chsI (truthI ((itemsV t).getD i noI)) (Y.getD (i % Y.length) noI) (N.getD (i % N.length) noI)
def ChOk (t y n : Vec) : Prop := (ValidV t ∧ ValidV y ∧ ValidV n) ∧ Counts t ∧ (kindV y ≤ 3 ∧ kindV n ≤ 3) ∧ ¬ ((itemsV y).length = 0 ∨ (itemsV n).length = 0)
noncomputable def chV (t y n : Vec) : Vec := match bB (ChOk t y n) with
  | true => mkN (chK y n) (itF (chF t (chP y (chK y n)) (chP n (chK y n))) (itemsV t).length) (namesV t)
  | false => noV
noncomputable def chS (t y n : Vec) : ByteArray := match bB (ValidV t ∧ ValidV y ∧ ValidV n), bB (Counts t), bB (kindV y ≤ 3 ∧ kindV n ≤ 3), bB ((itemsV y).length = 0 ∨ (itemsV n).length = 0) with
  | false, _, _, _ => badB
  | true, false, _, _ => nonLogB
  | true, true, false, _ => natB
  | true, true, true, true => zrpB
  | true, true, true, false => ⟨#[]⟩
theorem implLatest2 (k0 : Int) (ai0 ap0 an0 ac0 al0 : Option Addr) (n0 ci0 np0 cp0 nn0 cn0 nc0 cc0 nl0 cl0 : Nat) (code0 env0 : Int) (k1 : Int) (ai1 ap1 an1 ac1 al1 : Option Addr) (n1 ci1 np1 cp1 nn1 cn1 nc1 cc1 nl1 cl1 : Nat) (code1 env1 : Int) (g : Nat) (w : World) (hk0 : 0 ≤ k0 ∧ k0 ≤ 3) (hk1 : 0 ≤ k1 ∧ k1 ≤ 3) (hg : w.heap[g]? = some (.cells #[.int .i64 k0, .slice ai0 n0 ci0, .slice ap0 np0 cp0, .slice an0 nn0 cn0, .slice ac0 nc0 cc0, .slice al0 nl0 cl0, .int .i64 code0, .int .i64 env0, .int .i64 k1, .slice ai1 n1 ci1, .slice ap1 np1 cp1, .slice an1 nn1 cn1, .slice ac1 nc1 cc1, .slice al1 nl1 cl1, .int .i64 code1, .int .i64 env1] 31 (0, 0))) :
    Calls Tryz.prog 44 #[.slice (some ⟨g, 0, none⟩) 2 2] w fun e w' => e = .returned (.int .i64 (maxI k0 k1)) ∧ Below w.heap.size w w' := by
  have KG := Lib.hid hg
  have hgw := (Array.getElem?_eq_some_iff.1 hg).1
  have MX := Lib.hid (show maxI k0 k1 = if k0 < k1 then k1 else k0 from rfl)
  clear hg
  go_enter Tryz.func44, Tryz.ntmps44
  go_wp2
  go_loopw [8, 3] (fun i m wr => ∃ k : Nat, k ≤ 2 ∧ i = .int .i64 k ∧ m = .int .i64 (if k = 0 then 0 else if k = 1 then k0 else maxI k0 k1) ∧ Below w.heap.size w wr) (fun i _ _ => 2 - (intOf i).toNat)
  case atStart => exact ⟨0, by omega, rfl, rfl, Below.refl _ _⟩
  case round =>
    obtain ⟨k, hk, rfl, rfl, hbw⟩ := hrel
    have BW := Lib.hid hbw
    have KGW := Lib.hid (blk_below hbw KG.out)
    clear hbw
    have hgr := (Array.getElem?_eq_some_iff.1 KGW.out).1
    rcases (show k = 0 ∨ k = 1 ∨ k = 2 by omega) with rfl | rfl | rfl
    · have g0 : wr.cell? ⟨g, 0, none⟩ = some (.int .i64 k0) := cellOf KGW.out rfl
      have g1 : wr.cell? ⟨g, 1, none⟩ = some (.slice ai0 n0 ci0) := cellOf KGW.out rfl
      have g2 : wr.cell? ⟨g, 2, none⟩ = some (.slice ap0 np0 cp0) := cellOf KGW.out rfl
      have g3 : wr.cell? ⟨g, 3, none⟩ = some (.slice an0 nn0 cn0) := cellOf KGW.out rfl
      have g4 : wr.cell? ⟨g, 4, none⟩ = some (.slice ac0 nc0 cc0) := cellOf KGW.out rfl
      have g5 : wr.cell? ⟨g, 5, none⟩ = some (.slice al0 nl0 cl0) := cellOf KGW.out rfl
      have g6 : wr.cell? ⟨g, 6, none⟩ = some (.int .i64 code0) := cellOf KGW.out rfl
      have g7 : wr.cell? ⟨g, 7, none⟩ = some (.int .i64 env0) := cellOf KGW.out rfl
      go_wp2
      go_roundw
      case rel => exact ⟨1, by omega, by go_num, by simp; omega, BW.out.alloc BW.out.size _⟩
      case measure => simp [intOf]
    · have g0 : wr.cell? ⟨g, 8, none⟩ = some (.int .i64 k1) := cellOf KGW.out rfl
      have g1 : wr.cell? ⟨g, 9, none⟩ = some (.slice ai1 n1 ci1) := cellOf KGW.out rfl
      have g2 : wr.cell? ⟨g, 10, none⟩ = some (.slice ap1 np1 cp1) := cellOf KGW.out rfl
      have g3 : wr.cell? ⟨g, 11, none⟩ = some (.slice an1 nn1 cn1) := cellOf KGW.out rfl
      have g4 : wr.cell? ⟨g, 12, none⟩ = some (.slice ac1 nc1 cc1) := cellOf KGW.out rfl
      have g5 : wr.cell? ⟨g, 13, none⟩ = some (.slice al1 nl1 cl1) := cellOf KGW.out rfl
      have g6 : wr.cell? ⟨g, 14, none⟩ = some (.int .i64 code1) := cellOf KGW.out rfl
      have g7 : wr.cell? ⟨g, 15, none⟩ = some (.int .i64 env1) := cellOf KGW.out rfl
      go_wp2
      go_roundw
      case rel => exact ⟨2, by omega, by go_num, by simp [MX.out]; split <;> omega, BW.out.alloc BW.out.size _⟩
      case measure => simp [intOf]
    · go_wp2
      go_ret
      exact ⟨rfl, BW.out⟩
end Go.Proofs.YtikgcogiiohahaaGreatDoor

/- Factors, as data. -/
namespace Go.Proofs.YtikgcogiiohahaaGreatDoor
open Go.RowKit
set_option maxRecDepth 100000
set_option linter.unusedVariables false

/-- The words of this chapter. -/
def nolB : ByteArray := ⟨#[110, 111, 32, 108, 101, 118, 101, 108, 115]⟩
def nfaB : ByteArray := ⟨#[110, 111, 116, 32, 97, 32, 102, 97, 99, 116, 111, 114]⟩
/-- A text's place in a list, counted from 0; -1 where it is not there. -/
def atF (l : List ByteArray) (s : ByteArray) : Int := findF s (fun i => l.getD i ⟨#[]⟩) l.length 0
/-- A list without its repetitions. -/
def snocD (l : List ByteArray) (s : ByteArray) : List ByteArray := if atF l s < 0 then l ++ [s] else l
def dedL (l : List ByteArray) : List ByteArray := l.foldl snocD []
/-- An element as the place of its text among the levels. -/
def codI (lv : List ByteArray) (x : It) : It := if x.d = 0 ∨ atF lv x.t < 0 then noI else ⟨atF lv x.t + 1, 1, ⟨#[]⟩⟩
def codL (lv : List ByteArray) (X : List It) : List It := itF (fun i => codI lv (X.getD i noI)) X.length
/-- A factor of these elements. -/
def facR (lv : List ByteArray) (X : List It) (names : List ByteArray) : Vec := .mk 2 (codL lv X) [] names [facB] lv 0 0
end Go.Proofs.YtikgcogiiohahaaGreatDoor

/- Lists put one behind the other, and codes of texts in a map: the program. -/
namespace Go.Proofs.YtikgcogiiohahaaGreatDoor
open Go.RowKit Go.Maps
set_option maxRecDepth 100000
set_option linter.unusedVariables false

/-- Lists of texts, each a slice in a row of slices. -/
def ListsAt (B : Nat) (w : World) (a : Option Addr) (L : List (List ByteArray)) : Prop := ∀ k, k < L.length → ∃ b off ad c, a = some ⟨b, off, none⟩ ∧ b < B ∧ w.cell? ⟨b, off + k, none⟩ = some (.slice ad (L.getD k []).length c) ∧ TextsAt 0 B w ad (L.getD k [])
theorem ListsAt.below {B : Nat} {w w' : World} {a : Option Addr} {L : List (List ByteArray)} (h : ListsAt B w a L) (hb : Below B w w') : ListsAt B w' a L := fun k hk => by
  obtain ⟨b, off, ad, c, e, hlt, hc, ht⟩ := h k hk
  exact ⟨b, off, ad, c, e, hlt, by rw [hb.cell hlt]; exact hc, ht.below hb (Nat.le_refl _)⟩
/-- How long the first k lists are in all. -/
def flN (L : List (List ByteArray)) (k : Nat) : Nat := (L.take k).flatten.length
/-- A map that has the places of texts in a list, counted from 1. -/
structure CodeM (D : DataW Unit) (l : List ByteArray) : Prop where
  tidy : Tidy D
  size : Maps.size D = l.length
  has_ : ∀ s : ByteArray, Maps.has D (.string s.data.toList) = decide (0 ≤ atF l s)
  at_ : ∀ s : ByteArray, D.atKey (.string s.data.toList) (.lit (.int .i64 0)) = .lit (.int .i64 (atF l s + 1))
theorem CodeM.start : CodeM (.map []) [] := ⟨tidy_empty, rfl, fun s => rfl, fun s => rfl⟩
theorem CodeM.val {D : DataW Unit} {l : List ByteArray} {s : ByteArray} {c : Int} (h : CodeM D l) (hc : D.atKey (.string s.data.toList) (.lit (.int .i64 0)) = .lit (.int .i64 c)) : c = atF l s + 1 := by
  rw [h.at_ s] at hc
  simp only [DataW.lit.injEq, Lit.int.injEq, true_and] at hc
  exact hc.symm
theorem map_kept {w w' : World} {g n : Nat} {D : DataW Unit} (h : w.ownsMap Tryz.prog 9 (plainElem Tryz.prog 3) g n D) (hk : w'.heap[g]? = w.heap[g]?) : w'.ownsMap Tryz.prog 9 (plainElem Tryz.prog 3) g n D := by
  obtain ⟨es, clock, hb, r⟩ := h
  exact ⟨es, clock, hk.trans hb, r⟩
/-- The codes of a list's texts, in block g. -/
structure MapC (w : World) (g : Nat) (l : List ByteArray) : Prop where
  ex : ∃ (n : Nat) (D : DataW Unit), n ≤ 1048576 ∧ w.ownsMap Tryz.prog 9 (plainElem Tryz.prog 3) g n D ∧ CodeM D l
theorem MapC.same {w w' : World} {g : Nat} {l : List ByteArray} (h : MapC w g l) (hk : w'.heap[g]? = w.heap[g]?) : MapC w' g l := by
  obtain ⟨n, D, h1, h2, h3⟩ := h.ex
  exact ⟨n, D, h1, map_kept h2 hk, h3⟩
theorem MapC.lt {w : World} {g : Nat} {l : List ByteArray} (h : MapC w g l) : g < w.heap.size := by
  obtain ⟨n, D, h1, h2, h3⟩ := h.ex
  exact h2.lt
theorem MapC.keep {w w' : World} {g : Nat} {l : List ByteArray} (h : MapC w g l) (hb : Below w.heap.size w w') : MapC w' g l := h.same (hb.block g h.lt)
end Go.Proofs.YtikgcogiiohahaaGreatDoor

/- What a loop that appends items to a vector keeps: all blocks of the world ahead of it but the vector's own. -/
namespace Go.Proofs.YtikgcogiiohahaaGreatDoor
open Go.RowKit
set_option maxRecDepth 100000
set_option linter.unusedVariables false

structure AppK (w w0 wr : World) (b : Nat) (kind : Int) (l : List It) (sa : Option Addr) (sn sc : Nat) (na : Option Addr) (nn nc : Nat) : Prop where
  vec : wr.heap[b]? = some (.cells #[.int .i64 kind, .slice sa sn sc, .slice none 0 0, .slice na nn nc, .slice none 0 0, .slice none 0 0, .int .i64 0, .int .i64 0] 31 (0, 0))
  row : wr.ownsRow w0.heap.size 45 3 (.slice sa sn sc) l.length (itCells l)
  kept : ∀ g, g < w0.heap.size → g ≠ b → wr.heap[g]? = w0.heap[g]?
  size : w0.heap.size ≤ wr.heap.size
  below : Below w.heap.size w wr
  lt : b < w0.heap.size
  ge : w.heap.size ≤ b
theorem AppK.start {w w0 : World} {b : Nat} {kind : Int} {na : Option Addr} {nn nc : Nat} (h : w0.heap[b]? = some (.cells #[.int .i64 kind, .slice none 0 0, .slice none 0 0, .slice na nn nc, .slice none 0 0, .slice none 0 0, .int .i64 0, .int .i64 0] 31 (0, 0))) (hB : Below w.heap.size w w0) (hb : w.heap.size ≤ b) : AppK w w0 w0 b kind [] none 0 0 na nn nc :=
  ⟨h, ⟨rfl, .inl ⟨rfl, rfl⟩⟩, fun _ _ _ => rfl, Nat.le_refl _, hB, (Array.getElem?_eq_some_iff.1 h).1, hb⟩
theorem AppK.keep {w w0 wr w1 : World} {b : Nat} {kind : Int} {l : List It} {sa : Option Addr} {sn sc : Nat} {na : Option Addr} {nn nc : Nat} (h : AppK w w0 wr b kind l sa sn sc na nn nc) (hb : Below wr.heap.size wr w1) : AppK w w0 w1 b kind l sa sn sc na nn nc :=
  ⟨blk_below hb h.vec, ownsRow_below h.row hb, fun g hg hn => (hb.block g (Nat.lt_of_lt_of_le hg h.size)).trans (h.kept g hg hn), Nat.le_trans h.size hb.size, below_then h.below hb, h.lt, h.ge⟩
theorem AppK.blk {w w0 wr : World} {b : Nat} {kind : Int} {l : List It} {sa : Option Addr} {sn sc : Nat} {na : Option Addr} {nn nc : Nat} (h : AppK w w0 wr b kind l sa sn sc na nn nc) {g : Nat} {o : Obj} (hg : w0.heap[g]? = some o) (hn : g ≠ b) : wr.heap[g]? = some o := (h.kept g (Array.getElem?_eq_some_iff.1 hg).1 hn).trans hg
theorem AppK.far {w w0 wr : World} {b : Nat} {kind : Int} {l : List It} {sa : Option Addr} {sn sc : Nat} {na : Option Addr} {nn nc : Nat} (h : AppK w w0 wr b kind l sa sn sc na nn nc) {g j : Nat} (hj : (Value.slice sa sn sc).ownBlock = some j) (hg : g < w0.heap.size ∨ wr.heap.size ≤ g) : g ≠ j := by
  have := h.row.lt j hj
  omega
theorem AppK.next {w w0 wr W : World} {b : Nat} {kind : Int} {l : List It} {z : It} {sa sa' : Option Addr} {sn sc sn' sc' : Nat} {na : Option Addr} {nn nc : Nat} (h : AppK w w0 wr b kind l sa sn sc na nn nc)
    (hK : W.heap[b]? = some (.cells (#[.int .i64 kind, .slice sa sn sc, .slice none 0 0, .slice na nn nc, .slice none 0 0, .slice none 0 0, .int .i64 0, .int .i64 0].setIfInBounds 1 (.slice sa' sn' sc')) 31 (0, 0)))
    (hO : W.ownsRow w0.heap.size 45 3 (.slice sa' sn' sc') (l ++ [z]).length (itCells (l ++ [z]))) (hB : Below w.heap.size w W) (hZ : wr.heap.size ≤ W.heap.size)
    (hG : ∀ g, g < wr.heap.size → g ≠ b → (∀ k, (Value.slice sa sn sc).ownBlock = some k → g ≠ k) → W.heap[g]? = wr.heap[g]?) : AppK w w0 W b kind (l ++ [z]) sa' sn' sc' na nn nc :=
  ⟨hK, hO, fun g hg hn => (hG g (Nat.lt_of_lt_of_le hg h.size) hn (fun k hk => h.far hk (.inl hg))).trans (h.kept g hg hn), Nat.le_trans h.size hZ, hB, h.lt, h.ge⟩
/-- The vector that the loop has made. -/
theorem AppK.own {w w0 wr : World} {b : Nat} {kind : Int} {l : List It} {sa : Option Addr} {sn sc : Nat} {na : Option Addr} {nc : Nat} {names : List ByteArray} {F : List Nat} (h : AppK w w0 wr b kind l sa sn sc na names.length nc)
    (hT : OwnTxs w0 na names F) (hnd : F.Nodup) (hF : ∀ g ∈ F, w.heap.size ≤ g ∧ g < w0.heap.size ∧ g ≠ b) (hc : names.length ≤ nc) : ∃ G, OwnVec wr 1 (mkN kind l names) (.agg #[.int .i64 kind, .slice sa sn sc, .slice none 0 0, .slice na names.length nc, .slice none 0 0, .slice none 0 0, .int .i64 0, .int .i64 0]) G ∧ G.Nodup ∧ ∀ g ∈ G, w.heap.size ≤ g ∧ g < wr.heap.size ∧ (w0.heap.size ≤ g ∨ g ∈ F) := by
  obtain ⟨a, c, Fi, e, ho, hn, hr, hc'⟩ := own_of_its h.row
  obtain ⟨rfl, rfl, rfl⟩ : sa = a ∧ sn = l.length ∧ sc = c := by simpa using e
  have h0 : w.heap.size ≤ w0.heap.size := Nat.le_trans h.ge (Nat.le_of_lt h.lt)
  refine ⟨Fi ++ F, ?_, ?_, ?_⟩
  · show OwnVec wr 1 (.mk kind l [] names [] [] 0 0) _ _
    unfold OwnVec
    exact ⟨sa, sc, none, 0, na, nc, none, 0, none, 0, Fi, [], F, [], [], rfl, by simp, ⟨hc', Nat.le_refl _, hc, Nat.le_refl _, Nat.le_refl _⟩, ho, hT.kept (fun g hg => h.kept g (hF g hg).2.1 (hF g hg).2.2), .inl ⟨rfl, rfl⟩, .inl ⟨rfl, rfl⟩, .inl ⟨rfl, rfl⟩⟩
  · rw [List.nodup_append]
    exact ⟨hn, hnd, fun x hx y hy e => by have := hr x hx; have := hF y hy; omega⟩
  · intro g hg
    have h3 := h.size
    rcases List.mem_append.1 hg with hg | hg
    · have := hr g hg; exact ⟨by omega, by omega, .inl this.1⟩
    · have := hF g hg; exact ⟨by omega, by omega, .inr hg⟩
theorem AppK.fin {w w0 wr : World} {b r : Nat} {kind : Int} {l : List It} {sa : Option Addr} {sn sc : Nat} {na : Option Addr} {nc : Nat} {names : List ByteArray} {F : List Nat} (h : AppK w w0 wr b kind l sa sn sc na names.length nc)
    (hT : OwnTxs w0 na names F) (hnd : F.Nodup) (hF : ∀ g ∈ F, w.heap.size ≤ g ∧ g < w0.heap.size ∧ g ≠ b ∧ g ≠ r) (hc : names.length ≤ nc) (hr : w.heap.size ≤ r ∧ r < w0.heap.size) : ResV 1 (mkN kind l names) w (.returned (.agg #[.int .i64 kind, .slice sa sn sc, .slice none 0 0, .slice na names.length nc, .slice none 0 0, .slice none 0 0, .int .i64 0, .int .i64 0])) (put8 wr r 0 (.int .i64 kind) (.slice sa sn sc) (.slice none 0 0) (.slice na names.length nc) (.slice none 0 0) (.slice none 0 0) (.int .i64 0) (.int .i64 0)) := by
  obtain ⟨G, ho, hn, hg⟩ := h.own hT hnd (fun g hg => ⟨(hF g hg).1, (hF g hg).2.1, (hF g hg).2.2.1⟩) hc
  refine ⟨_, rfl, ⟨G, ho.kept _ _ _ _ (fun g hg' => put8_other ?_), hn, fun g hg' => by rw [put8_size]; have := hg g hg'; omega⟩, put8_below h.below hr.1⟩
  rcases (hg g hg').2.2 with h1 | h1
  · omega
  · exact (hF g h1).2.2.2
/-- Items that lie in blocks of the world ahead of the loop, other than the vector's. -/
theorem ItemsAt.loopK {w0 wr : World} {a : Option Addr} {l : List It} {lo hi b : Nat} (h : ItemsAt lo hi w0 a l) (hb : b < lo ∨ hi ≤ b) (hhi : hi ≤ w0.heap.size) (k : ∀ g, g < w0.heap.size → g ≠ b → wr.heap[g]? = w0.heap[g]?) {i : Nat} (hi' : i < l.length) :
    ∃ ba off, a = some ⟨ba, off, none⟩ ∧ ba < w0.heap.size ∧ wr.cell? ⟨ba, off + i * 3, none⟩ = some (.int .i64 (l.getD i noI).n) ∧ wr.cell? ⟨ba, off + i * 3 + 1, none⟩ = some (.int .i64 (l.getD i noI).d) ∧ wr.cell? ⟨ba, off + i * 3 + 2, none⟩ = some (.string (l.getD i noI).t) := by
  have hk : ItemsAt lo hi wr a l := h.kept (fun g o h1 h2 => by simp only [World.cell?]; rw [k g (by omega) (by omega)])
  obtain ⟨ba, off, e, hlt, c0, c1, c2⟩ := hk.at_ hi'
  exact ⟨ba, off, e, by omega, c0, c1, c2⟩
end Go.Proofs.YtikgcogiiohahaaGreatDoor

/- CountBytes as data; that of the program. -/
namespace Go.Proofs.YtikgcogiiohahaaGreatDoor
open Go.RowKit
set_option maxRecDepth 100000
set_option linter.unusedVariables false

/-- The elements as texts. -/
def txsL (kk : Int) (items : List It) (levels : List ByteArray) : List It := cnvL (plnK kk levels) 3 (plnL levels items)
/-- What CountBytes answers. -/
noncomputable def cbV (v : Vec) : Vec := match bB (atmS v = ⟨#[]⟩), v with
  | true, .mk kk items _ names _ levels _ _ => mkN 2 (itF (fun i => bytI ((txsL kk items levels).getD i noI)) (txsL kk items levels).length) names
  | false, _ => noV
end Go.Proofs.YtikgcogiiohahaaGreatDoor

/- The codes of a vector's elements: the program. -/
namespace Go.Proofs.YtikgcogiiohahaaGreatDoor
open Go.RowKit
set_option maxRecDepth 100000
set_option linter.unusedVariables false

/-- An index as a position; nothing for -1. -/
def posI (z : Int) : It := if z < 0 then noI else ⟨z + 1, 1, ⟨#[]⟩⟩
theorem posI_no {z : Int} (h : z < 0) : posI z = noI := by unfold posI; rw [if_pos h]
theorem posI_yes {z : Int} (h : ¬ z < 0) : posI z = ⟨z + 1, 1, ⟨#[]⟩⟩ := by unfold posI; rw [if_neg h]
theorem implPosItem (z : Int) (w : World) (h : -1 ≤ z) (h2 : z ≤ 1048576) :
    Calls Tryz.prog 25 #[.int .i64 z] w fun e w' => e = .returned (.agg #[.int .i64 (posI z).n, .int .i64 (posI z).d, .string (posI z).t]) ∧ Below w.heap.size w w' := by
  by_cases hz : z < 0
  · rw [posI_no hz]
    go_enter Tryz.func25, Tryz.ntmps25
    go_wp2
    first | exact item_ret0 rfl rfl rfl (blk_new _ _ rfl) ⟨rfl, below1 w _⟩ | exact item_ret rfl rfl rfl (blk_new _ _ rfl) ⟨rfl, below_three (below1 w _) (Nat.le_refl _) _ _ _⟩
  · rw [posI_yes hz]
    have EM := mkI_int (n := z + 1) (by omega) (by omega)
    obtain ⟨w1, hw1⟩ : ∃ W, w.alloc (.cells #[.int .i64 0, .int .i64 0, .string ⟨#[]⟩] 45) = W := ⟨_, rfl⟩
    have B1 := Lib.hid (show Below w.heap.size w w1 from hw1 ▸ below1 w _)
    have KZ := Lib.hid (show w1.heap[w.heap.size]? = some (.cells #[.int .i64 0, .int .i64 0, .string ⟨#[]⟩] 45 (0, 0)) from hw1 ▸ blk_new w _ rfl)
    have CT := Lib.hid (by have h := implMake (z + 1) 1 w1 ⟨by omega, by omega⟩ (by omega); rw [EM] at h; exact h : Calls Tryz.prog 46 #[.int .i64 (z + 1), .int .i64 1] w1 fun e w' => e = .returned (.agg #[.int .i64 (z + 1), .int .i64 1, .string ⟨#[]⟩]) ∧ Below w1.heap.size w1 w')
    have EW := Lib.hid hw1
    clear EM hw1
    go_enter Tryz.func25, Tryz.ntmps25
    go_wp2_with fail
    rw [EW.out]
    refine CT.out.mono ?_
    rintro e w2 ⟨rfl, b⟩
    have B2 := Lib.hid (below_then B1.out b)
    have KZ2 := Lib.hid (blk_below b KZ.out)
    clear b
    obtain ⟨⟨z0, z1, z2⟩, f0, f1, f2⟩ := three KZ2.out
    go_wp2
    exact item_ret rfl rfl rfl KZ2.out ⟨rfl, below_three B2.out (Nat.le_refl _) _ _ _⟩
end Go.Proofs.YtikgcogiiohahaaGreatDoor

/- MatchIn as data; problemOfAtomics of two vectors. -/
namespace Go.Proofs.YtikgcogiiohahaaGreatDoor
open Go.RowKit
set_option maxRecDepth 100000
set_option linter.unusedVariables false

noncomputable def fstI (l : List It) (x : It) : Int := Classical.epsilon (FirstIs l x)
theorem fst_eq {l : List It} {x : It} {r : Int} (h : FirstIs l x r) : r = fstI l x := by
  have h2 : FirstIs l x (fstI l x) := Classical.epsilon_spec ⟨r, h⟩
  rcases h with ⟨e1, h1⟩ | ⟨j, e1, hj, e, hm⟩
  · rcases h2 with ⟨e2, _⟩ | ⟨j2, e2, hj2, ee, _⟩
    · rw [e1, e2]
    · exact absurd ee (h1 j2 hj2)
  · rcases h2 with ⟨e2, h2⟩ | ⟨j2, e2, hj2, ee, hm2⟩
    · exact absurd e (h2 j hj)
    · rw [e1, e2]
      rcases Nat.lt_trichotomy j j2 with q | q | q
      · exact absurd e (hm2 j q)
      · rw [q]
      · exact absurd ee (hm j2 q)
theorem fst_bound {l : List It} {x : It} {r : Int} (h : FirstIs l x r) : -1 ≤ r ∧ r ≤ l.length := by
  rcases h with ⟨e, _⟩ | ⟨j, e, hj, _, _⟩ <;> omega
/-- Element i of what MatchIn answers. -/
noncomputable def matI (Y X : List It) (i : Nat) : It := posI (fstI Y (X.getD i noI))
noncomputable def matS (v t : Vec) : ByteArray := match bB (atmS v = ⟨#[]⟩) with
  | true => atmS t
  | false => atmS v
noncomputable def matV (v t : Vec) : Vec := match bB (matS v t = ⟨#[]⟩) with
  | true => vecOf 2 (itF (matI (chP t (chK v t)) (chP v (chK v t))) (itemsV v).length)
  | false => noV
theorem matS_no {v t : Vec} (h : ¬ atmS v = ⟨#[]⟩) : matS v t = atmS v := by unfold matS; rw [bB_no h]
theorem matS_t {v t : Vec} (h : atmS v = ⟨#[]⟩) : matS v t = atmS t := by unfold matS; rw [bB_yes h]
theorem mat_no {v t : Vec} (h : ¬ matS v t = ⟨#[]⟩) : matV v t = noV := by unfold matV; rw [bB_no h]
theorem mat_yes {v t : Vec} (h : matS v t = ⟨#[]⟩) : matV v t = vecOf 2 (itF (matI (chP t (chK v t)) (chP v (chK v t))) (itemsV v).length) := by unfold matV; rw [bB_yes h]
theorem mat_both {v t : Vec} (h : matS v t = ⟨#[]⟩) : atmS v = ⟨#[]⟩ ∧ atmS t = ⟨#[]⟩ := by
  by_cases q : atmS v = ⟨#[]⟩
  · exact ⟨q, by rw [← matS_t q]; exact h⟩
  · exact absurd (by rw [← matS_no q]; exact h) q
theorem atm_vec {v : Vec} (h : atmS v = ⟨#[]⟩) : AtmOk (kindV v) (itemsV v) (levV v) := by
  obtain ⟨kk, items, parts, names, cls, levels, code, env⟩ := v
  exact atm_ok (atmS_iff.1 h).1 (atmS_iff.1 h).2
set_option maxHeartbeats 4000000 in
/-- problemOfAtomics of a list of two vectors. -/
theorem implAtm2 (d0 d1 : Nat) (v t : Vec) (k0 : Int) (ai0 ap0 an0 ac0 al0 : Option Addr) (n0 ci0 np0 cp0 nn0 cn0 nc0 cc0 nl0 cl0 : Nat) (code0 env0 : Int) (k1 : Int) (ai1 ap1 an1 ac1 al1 : Option Addr) (n1 ci1 np1 cp1 nn1 cn1 nc1 cc1 nl1 cl1 : Nat) (code1 env1 : Int) (g lo hi : Nat) (w : World) (hv : VecAt lo hi w d0 v (.agg #[.int .i64 k0, .slice ai0 n0 ci0, .slice ap0 np0 cp0, .slice an0 nn0 cn0, .slice ac0 nc0 cc0, .slice al0 nl0 cl0, .int .i64 code0, .int .i64 env0])) (ht : VecAt lo hi w d1 t (.agg #[.int .i64 k1, .slice ai1 n1 ci1, .slice ap1 np1 cp1, .slice an1 nn1 cn1, .slice ac1 nc1 cc1, .slice al1 nl1 cl1, .int .i64 code1, .int .i64 env1])) (hhi : hi ≤ w.heap.size) (hsv : Small d0 v) (hst : Small d1 t)
    (hg : w.heap[g]? = some (.cells #[.int .i64 k0, .slice ai0 n0 ci0, .slice ap0 np0 cp0, .slice an0 nn0 cn0, .slice ac0 nc0 cc0, .slice al0 nl0 cl0, .int .i64 code0, .int .i64 env0, .int .i64 k1, .slice ai1 n1 ci1, .slice ap1 np1 cp1, .slice an1 nn1 cn1, .slice ac1 nc1 cc1, .slice al1 nl1 cl1, .int .i64 code1, .int .i64 env1] 31 (0, 0))) :
    Calls Tryz.prog 23 #[.slice (some ⟨g, 0, none⟩) 2 2] w fun e w' => e = .returned (.string (matS v t)) ∧ Below w.heap.size w w' := by
  have C0 := Lib.hid (fun (w1 : World) (hb : Below w.heap.size w w1) => implIsVector d0 v _ lo hi w1 (hv.below hb hhi) (Nat.le_trans hhi hb.size) hsv)
  have C1 := Lib.hid (fun (w1 : World) (hb : Below w.heap.size w w1) => implIsVector d1 t _ lo hi w1 (ht.below hb hhi) (Nat.le_trans hhi hb.size) hst)
  have KG := Lib.hid hg
  obtain ⟨A, hA⟩ : ∃ V, v = V := ⟨_, rfl⟩
  obtain ⟨T, hT⟩ : ∃ V, t = V := ⟨_, rfl⟩
  have XK0 : kindV A = k0 := by
    obtain ⟨kk, items, parts, names, cls, levels, code, env⟩ := v
    obtain ⟨d', ai, ci, ap, cp, an, cn, ac, cc, al, cl, ed, e, -⟩ := vecAt_open hv
    rw [← hA]
    simp only [Value.agg.injEq, Array.mk.injEq, List.cons.injEq, Value.int.injEq, true_and] at e
    exact e.1.symm
  have XK1 : kindV T = k1 := by
    obtain ⟨kk, items, parts, names, cls, levels, code, env⟩ := t
    obtain ⟨d', ai, ci, ap, cp, an, cn, ac, cc, al, cl, ed, e, -⟩ := vecAt_open ht
    rw [← hT]
    simp only [Value.agg.injEq, Array.mk.injEq, List.cons.injEq, Value.int.injEq, true_and] at e
    exact e.1.symm
  rw [hA] at C0 ⊢
  rw [hT] at C1 ⊢
  have S0 := Lib.hid (fun h => matS_no (v := A) (t := T) h)
  have S1 := Lib.hid (fun h (_ : ¬ atmS T = ⟨#[]⟩) => matS_t (v := A) (t := T) h)
  clear hv ht hsv hst hg hA hT
  go_enter Tryz.func23, Tryz.ntmps23
  go_wp2
  go_loopw [7] (fun i wr => ∃ k : Nat, k ≤ 2 ∧ i = .int .i64 k ∧ (0 < k → atmS A = ⟨#[]⟩) ∧ (1 < k → atmS T = ⟨#[]⟩) ∧ Below w.heap.size w wr) (fun i _ => 2 - (intOf i).toNat)
  case atStart => exact ⟨0, by omega, rfl, fun h => absurd h (by omega), fun h => absurd h (by omega), Below.refl _ _⟩
  case round =>
    obtain ⟨k, hk, rfl, ha, ht, hbw⟩ := hrel
    have BW := Lib.hid hbw
    have KGW := Lib.hid (blk_below hbw KG.out)
    have PA := Lib.hid ha
    have PT := Lib.hid ht
    clear hbw ha ht
    have hgr := (Array.getElem?_eq_some_iff.1 KGW.out).1
    rcases (show k = 0 ∨ k = 1 ∨ k = 2 by omega) with rfl | rfl | rfl
    · have g0 : wr.cell? ⟨g, 0, none⟩ = some (.int .i64 k0) := cellOf KGW.out rfl
      have g1 : wr.cell? ⟨g, 1, none⟩ = some (.slice ai0 n0 ci0) := cellOf KGW.out rfl
      have g2 : wr.cell? ⟨g, 2, none⟩ = some (.slice ap0 np0 cp0) := cellOf KGW.out rfl
      have g3 : wr.cell? ⟨g, 3, none⟩ = some (.slice an0 nn0 cn0) := cellOf KGW.out rfl
      have g4 : wr.cell? ⟨g, 4, none⟩ = some (.slice ac0 nc0 cc0) := cellOf KGW.out rfl
      have g5 : wr.cell? ⟨g, 5, none⟩ = some (.slice al0 nl0 cl0) := cellOf KGW.out rfl
      have g6 : wr.cell? ⟨g, 6, none⟩ = some (.int .i64 code0) := cellOf KGW.out rfl
      have g7 : wr.cell? ⟨g, 7, none⟩ = some (.int .i64 env0) := cellOf KGW.out rfl
      go_wp2_with fail
      with_reducible refine (C0.out _ (BW.out.alloc BW.out.size _)).mono ?_
      rintro e w' ⟨rfl, b'⟩
      have BN := Lib.hid ((BW.out.alloc BW.out.size (.cells #[.int .i64 k0, .slice ai0 n0 ci0, .slice ap0 np0 cp0, .slice an0 nn0 cn0, .slice ac0 nc0 cc0, .slice al0 nl0 cl0, .int .i64 code0, .int .i64 env0] 31)).trans (b'.mono (by have := BW.out.size; simp; omega)))
      have KV := Lib.hid (blk_below b' (blk_new wr (.cells #[.int .i64 k0, .slice ai0 n0 ci0, .slice ap0 np0 cp0, .slice an0 nn0 cn0, .slice ac0 nc0 cc0, .slice al0 nl0 cl0, .int .i64 code0, .int .i64 env0] 31) rfl))
      clear b' g0 g1 g2 g3 g4 g5 g6 g7
      obtain ⟨g0, g1, g2, g3, g4, g5, g6, g7⟩ := vec8 KV.out
      by_cases q : ValidV A
      · rw [bB_yes q]
        by_cases hk3 : k0 ≤ 3
        · have Q := Lib.hid (atmS_yes q (by rw [XK0]; exact hk3))
          have CN := Lib.hid (fun W => (by have h := implAtN k0 ai0 ap0 an0 ac0 al0 n0 ci0 np0 cp0 nn0 cn0 nc0 cc0 nl0 cl0 code0 env0 W; rw [decide_eq_true hk3] at h; exact h : Calls Tryz.prog 42 #[.agg #[.int .i64 k0, .slice ai0 n0 ci0, .slice ap0 np0 cp0, .slice an0 nn0 cn0, .slice ac0 nc0 cc0, .slice al0 nl0 cl0, .int .i64 code0, .int .i64 env0]] W (fun e w' => e = .returned (.bool true) ∧ Below W.heap.size W w')))
          clear q XK0 hk3
          go_wp2_with fail
          with_reducible refine (CN.out _).mono ?_
          rintro e w3 ⟨rfl, b⟩
          have B3 := Lib.hid (below_then BN.out b)
          clear b
          go_wp2
          go_roundw
          case rel => exact ⟨1, by omega, by go_num, fun _ => Q.out, fun h => absurd h (by omega), B3.out⟩
          case measure => simp [intOf]
        · have Q := Lib.hid (atmS_non q (by rw [XK0]; exact hk3))
          have CN := Lib.hid (fun W => (by have h := implAtN k0 ai0 ap0 an0 ac0 al0 n0 ci0 np0 cp0 nn0 cn0 nc0 cc0 nl0 cl0 code0 env0 W; rw [decide_eq_false hk3] at h; exact h : Calls Tryz.prog 42 #[.agg #[.int .i64 k0, .slice ai0 n0 ci0, .slice ap0 np0 cp0, .slice an0 nn0 cn0, .slice ac0 nc0 cc0, .slice al0 nl0 cl0, .int .i64 code0, .int .i64 env0]] W (fun e w' => e = .returned (.bool false) ∧ Below W.heap.size W w')))
          clear q XK0 hk3
          go_wp2_with fail
          with_reducible refine (CN.out _).mono ?_
          rintro e w3 ⟨rfl, b⟩
          have B3 := Lib.hid (below_then BN.out b)
          clear b
          go_wp2
          go_ret
          exact ⟨by rw [S0.out (by rw [Q.out]; decide), Q.out]; rfl, B3.out⟩
      · rw [bB_no q]
        have X := Lib.hid (atmS_bad q)
        clear q XK0
        go_wp2
        go_ret
        exact ⟨by rw [S0.out (by rw [X.out]; decide), X.out]; rfl, BN.out⟩
    · have g0 : wr.cell? ⟨g, 8, none⟩ = some (.int .i64 k1) := cellOf KGW.out rfl
      have g1 : wr.cell? ⟨g, 9, none⟩ = some (.slice ai1 n1 ci1) := cellOf KGW.out rfl
      have g2 : wr.cell? ⟨g, 10, none⟩ = some (.slice ap1 np1 cp1) := cellOf KGW.out rfl
      have g3 : wr.cell? ⟨g, 11, none⟩ = some (.slice an1 nn1 cn1) := cellOf KGW.out rfl
      have g4 : wr.cell? ⟨g, 12, none⟩ = some (.slice ac1 nc1 cc1) := cellOf KGW.out rfl
      have g5 : wr.cell? ⟨g, 13, none⟩ = some (.slice al1 nl1 cl1) := cellOf KGW.out rfl
      have g6 : wr.cell? ⟨g, 14, none⟩ = some (.int .i64 code1) := cellOf KGW.out rfl
      have g7 : wr.cell? ⟨g, 15, none⟩ = some (.int .i64 env1) := cellOf KGW.out rfl
      go_wp2_with fail
      with_reducible refine (C1.out _ (BW.out.alloc BW.out.size _)).mono ?_
      rintro e w' ⟨rfl, b'⟩
      have BN := Lib.hid ((BW.out.alloc BW.out.size (.cells #[.int .i64 k1, .slice ai1 n1 ci1, .slice ap1 np1 cp1, .slice an1 nn1 cn1, .slice ac1 nc1 cc1, .slice al1 nl1 cl1, .int .i64 code1, .int .i64 env1] 31)).trans (b'.mono (by have := BW.out.size; simp; omega)))
      have KV := Lib.hid (blk_below b' (blk_new wr (.cells #[.int .i64 k1, .slice ai1 n1 ci1, .slice ap1 np1 cp1, .slice an1 nn1 cn1, .slice ac1 nc1 cc1, .slice al1 nl1 cl1, .int .i64 code1, .int .i64 env1] 31) rfl))
      clear b' g0 g1 g2 g3 g4 g5 g6 g7
      obtain ⟨g0, g1, g2, g3, g4, g5, g6, g7⟩ := vec8 KV.out
      by_cases q : ValidV T
      · rw [bB_yes q]
        by_cases hk3 : k1 ≤ 3
        · have Q := Lib.hid (atmS_yes q (by rw [XK1]; exact hk3))
          have CN := Lib.hid (fun W => (by have h := implAtN k1 ai1 ap1 an1 ac1 al1 n1 ci1 np1 cp1 nn1 cn1 nc1 cc1 nl1 cl1 code1 env1 W; rw [decide_eq_true hk3] at h; exact h : Calls Tryz.prog 42 #[.agg #[.int .i64 k1, .slice ai1 n1 ci1, .slice ap1 np1 cp1, .slice an1 nn1 cn1, .slice ac1 nc1 cc1, .slice al1 nl1 cl1, .int .i64 code1, .int .i64 env1]] W (fun e w' => e = .returned (.bool true) ∧ Below W.heap.size W w')))
          clear q XK1 hk3
          go_wp2_with fail
          with_reducible refine (CN.out _).mono ?_
          rintro e w3 ⟨rfl, b⟩
          have B3 := Lib.hid (below_then BN.out b)
          clear b
          go_wp2
          go_roundw
          case rel => exact ⟨2, by omega, by go_num, fun _ => PA.out (by omega), fun _ => Q.out, B3.out⟩
          case measure => simp [intOf]
        · have Q := Lib.hid (atmS_non q (by rw [XK1]; exact hk3))
          have CN := Lib.hid (fun W => (by have h := implAtN k1 ai1 ap1 an1 ac1 al1 n1 ci1 np1 cp1 nn1 cn1 nc1 cc1 nl1 cl1 code1 env1 W; rw [decide_eq_false hk3] at h; exact h : Calls Tryz.prog 42 #[.agg #[.int .i64 k1, .slice ai1 n1 ci1, .slice ap1 np1 cp1, .slice an1 nn1 cn1, .slice ac1 nc1 cc1, .slice al1 nl1 cl1, .int .i64 code1, .int .i64 env1]] W (fun e w' => e = .returned (.bool false) ∧ Below W.heap.size W w')))
          clear q XK1 hk3
          go_wp2_with fail
          with_reducible refine (CN.out _).mono ?_
          rintro e w3 ⟨rfl, b⟩
          have B3 := Lib.hid (below_then BN.out b)
          clear b
          go_wp2
          go_ret
          exact ⟨by rw [S1.out (PA.out (by omega)) (by rw [Q.out]; decide), Q.out]; rfl, B3.out⟩
      · rw [bB_no q]
        have X := Lib.hid (atmS_bad q)
        clear q XK1
        go_wp2
        go_ret
        exact ⟨by rw [S1.out (PA.out (by omega)) (by rw [X.out]; decide), X.out]; rfl, BN.out⟩
    · have X0 := Lib.hid (PA.out (by omega))
      have X1 := Lib.hid (PT.out (by omega))
      go_wp2
      go_ret
      exact ⟨by rw [matS_t X0.out, X1.out]; rfl, BW.out⟩
theorem specEither (a b : ByteArray) (w : World) :
    Calls Tryz.prog 15 #[.string a, .string b] w fun e w' => e = .returned (.string (match bB (a = ⟨#[]⟩) with | true => b | false => a)) ∧ w = w' := by
  by_cases h : a = ⟨#[]⟩
  · rw [bB_yes h]
    subst h
    go_enter Tryz.func15, Tryz.ntmps15
    go_wp2
    go_ret
    exact ⟨rfl, rfl⟩
  · rw [bB_no h]
    have hab : (a.toList == []) = false := by have h := str_not h; rw [ByteArray.toList_eq ⟨#[]⟩] at h; exact h
    clear h
    go_enter Tryz.func15, Tryz.ntmps15
    go_wp2
    go_ret
    exact ⟨rfl, rfl⟩
end Go.Proofs.YtikgcogiiohahaaGreatDoor

/- l5Plain of the reference. -/
namespace Go.Proofs.YtikgcogiiohahaaGreatDoor
open Go.RowKit
set_option maxRecDepth 100000
set_option linter.unusedVariables false

theorem build_vI {w : World} {k : Int} {a : Option Addr} {n m : Nat} : (Instr.build 31 #[(0, .int .i64 k), (1, .slice a n m)]).run Tryz.prog w = .ok (.agg #[.int .i64 k, .slice a n m, .slice none 0 0, .slice none 0 0, .slice none 0 0, .slice none 0 0, .int .i64 0, .int .i64 0]) w := by
  kernel_rfl
theorem addr_itemJ {w' : World} {b o f : Nat} (hf : f < 3) : (Instr.fieldAt 45 (.pointer (some ⟨b, o, none⟩)) f).run Tryz.prog w' = .ok (.pointer (some ⟨b, o + f, none⟩)) w' := by
  rcases (show f = 0 ∨ f = 1 ∨ f = 2 by omega) with rfl | rfl | rfl <;> simp [Instr.fieldAt, go_sem] <;> rfl
section
variable {ops : Array Oper} {Q : Exit → Act → World → Prop} {S : World → Prop}
variable {r : List (Nat × Bool)} {a : Act} {e : List (Nat × Value)} {w : World} {i d : Nat} {g : Option (Nat × Bool)} {v : Value}
theorem runC_partJ {x : Operand} {f b o : Nat} (hf : Nat.blt f 3 = true) (ho : opAt ops i = some (some d, .fieldAddr 45 x f, g)) (hd : Nat.blt d a.tmps.size = true) (hw : wantE ops a e g = some true)
    (hx : lookO a e x = .pointer (some ⟨b, o, none⟩)) (h : RunE Tryz.prog ops Q S r a ((d, .pointer (some ⟨b, o + f, none⟩)) :: e) w) : RunE Tryz.prog ops Q S ((i, true) :: r) a e w :=
  run_addr ho hd hw hx (fun w' => addr_itemJ (Nat.le_of_ble_eq_true hf)) h
theorem run_bldI {k : Int} {z x : Operand} {sa : Option Addr} {n m : Nat} (ho : opAt ops i = some (some d, .build 31 #[(0, z), (1, x)], g)) (hd : Nat.blt d a.tmps.size = true) (hw : wantE ops a e g = some true)
    (hz : lookO a e z = .int .i64 k) (hx : lookO a e x = .slice sa n m)
    (h : RunE Tryz.prog ops Q S r a ((d, .agg #[.int .i64 k, .slice sa n m, .slice none 0 0, .slice none 0 0, .slice none 0 0, .slice none 0 0, .int .i64 0, .int .i64 0]) :: e) w) : RunE Tryz.prog ops Q S ((i, true) :: r) a e w :=
  run_yield ho hd hw (fun o w' h1 _ => by
    unfold execOp
    simp only [h1, List.map_toArray, List.map_cons, List.map_nil, hx, hz]
    exact run_v build_vI) h
/-- A slice of no items. -/
theorem run_mk0I (ho : opAt ops i = some (some d, .buildSlice 28 0 #[], g)) (hd : Nat.blt d a.tmps.size = true) (hw : wantE ops a e g = some true)
    (h : ∀ W n, W = w.alloc (.cells #[] 45) → n = w.heap.size → S W ∧ RunE Tryz.prog ops Q S r a ((d, .slice (some ⟨n, 0, none⟩) 0 0) :: e) W) : RunE Tryz.prog ops Q S ((i, false) :: r) a e w := by
  obtain ⟨hS, hR⟩ := h _ _ rfl rfl
  obtain ⟨ie, hie, _⟩ := info_parts infoItm3
  refine run_eff (op := .buildSlice 28 0 #[]) ho hd hw (fun o h1 => ?_) hS hR
  unfold execOp
  have hb := run_buildSlice0 (P := Tryz.prog) w 28 45 ie Tryz.underlying28 hie
  simp only [h1, List.map_toArray, List.map_nil, Sem.run_bind, hb, Result.andThen_ok]
  rfl
end
/-- What l5Plain works on: the vector's variable, its items in a row of their own. -/
structure PlnU (W0 wx : World) (gu : Nat) (kc : Int) (v' : Value) (l : List It) : Prop where
  blk : wx.heap[gu]? = some (.cells #[.int .i64 kc, v', .slice none 0 0, .slice none 0 0, .slice none 0 0, .slice none 0 0, .int .i64 0, .int .i64 0] 31 (0, 0))
  row : wx.ownsRow W0.heap.size 45 3 v' l.length (itCells l)
  ne : v'.ownBlock ≠ some gu
  ge : W0.heap.size ≤ gu
  below : Below W0.heap.size W0 wx
theorem PlnU.keep {W0 wx w1 : World} {gu : Nat} {kc : Int} {v' : Value} {l : List It} (h : PlnU W0 wx gu kc v' l) (hb : Below wx.heap.size wx w1) : PlnU W0 w1 gu kc v' l :=
  ⟨blk_below hb h.blk, ownsRow_below h.row hb, h.ne, h.ge, below_then h.below hb⟩
theorem plnU_end {W0 w : World} {gu : Nat} {kk : Int} {sa : Option Addr} {n c : Nat} {l : List It} {C : Array Value} (hb : w.heap[gu]? = some (.cells C 31 (0, 0))) (hr : w.ownsRow W0.heap.size 45 3 (.slice sa n c) l.length (itCells l)) (ne : (Value.slice sa n c).ownBlock ≠ some gu) (ge : W0.heap.size ≤ gu) (hB : Below W0.heap.size W0 w) :
    PlnU W0 (w.setRow gu #[.int .i64 kk, .slice sa n c, .slice none 0 0, .slice none 0 0, .slice none 0 0, .slice none 0 0, .int .i64 0, .int .i64 0]) gu kk (.slice sa n c) l :=
  ⟨row_set hb, ownsRow_kept hr (fun g hg => row_old rfl (fun e => ne (by rw [hg, e]))), ne, ge, below_row hB ge _⟩
theorem row_formS {w : World} {B n : Nat} {t : TypeId} {size : Nat} {v : Value} {xs : List Value} (h : w.ownsRow B t size v n xs) : ∃ sa c, v = .slice sa n c := by
  obtain ⟨_, ⟨e, h0⟩ | ⟨g, cap, cur, e, _⟩⟩ := h
  · exact ⟨_, _, by rw [e, h0]⟩
  · exact ⟨_, _, e⟩
theorem itCells_set (z : It) : ∀ (l : List It) (k : Nat), k < l.length → itCells (l.set k z) = (itCells l).take (k * 3) ++ [Value.int .i64 z.n, .int .i64 z.d, .string z.t] ++ (itCells l).drop (k * 3 + 3)
  | [], k, h => absurd h (Nat.not_lt_zero _)
  | x :: l, 0, _ => by simp [itCells]
  | x :: l, k + 1, h => by
    have ih := itCells_set z l k (by simpa using h)
    have e : (k + 1) * 3 = k * 3 + 3 := by omega
    rw [List.set_cons_succ]
    simp only [itCells, e]
    rw [ih]
    simp
theorem row_setI {w : World} {B g n c k : Nat} {cur : Array Value} {l : List It} {z : It} (h : w.ownsRow B 45 3 (.slice (some ⟨g, 0, none⟩) n c) l.length (itCells l)) (hg : w.heap[g]? = some (.cells cur 45 (0, 0))) (hk : k < l.length) :
    k * 3 + 3 ≤ cur.size ∧ (w.setRow g (cur.toList.take (k * 3) ++ [Value.int .i64 z.n, .int .i64 z.d, .string z.t] ++ cur.toList.drop (k * 3 + 3)).toArray).ownsRow B 45 3 (.slice (some ⟨g, 0, none⟩) n c) l.length (itCells (l.set k z)) := by
  obtain ⟨h0, ⟨e, _⟩ | ⟨g', cap, cur', e, hB, hb, hn, hm, hs, ht⟩⟩ := h
  · cases e
  · simp only [Value.slice.injEq, Option.some.injEq, Addr.mk.injEq] at e
    obtain ⟨⟨rfl, _⟩, rfl, rfl⟩ := e
    rw [hb] at hg
    simp only [Option.some.injEq, Obj.cells.injEq] at hg
    obtain ⟨rfl, _⟩ := hg
    have h3 : l.length * 3 ≤ c * 3 := by omega
    refine ⟨by omega, ?_, .inr ⟨g, c, _, rfl, hB, setRow_heap _ _ _ _ _ _ hb, hn, hm, ?_, ?_⟩⟩
    · rw [itCells_len, List.length_set]
    · simp [hs]; omega
    · have e1 : cur'.toList.take (k * 3) = (itCells l).take (k * 3) := by rw [← ht, List.take_take, Nat.min_eq_left (by omega)]
      have e2 : (cur'.toList.drop (k * 3 + 3)).take (l.length * 3 - (k * 3 + 3)) = (itCells l).drop (k * 3 + 3) := by rw [← ht, List.drop_take]
      have hl : (cur'.toList.take (k * 3) ++ [Value.int .i64 z.n, .int .i64 z.d, .string z.t]).length = k * 3 + 3 := by simp [hs]; omega
      rw [itCells_set z l k hk, ← e1, ← e2]
      show List.take _ (cur'.toList.take (k * 3) ++ [Value.int .i64 z.n, .int .i64 z.d, .string z.t] ++ cur'.toList.drop (k * 3 + 3)) = _
      rw [List.take_append, hl, List.take_of_length_le (by rw [hl]; omega)]
theorem store_itemAt {w : World} {g o : Nat} {cur : Array Value} {x y z : Value} (h : w.heap[g]? = some (.cells cur 45 (0, 0))) (hl : o + 3 ≤ cur.size) (hx : x.oneCell' = true) (hy : y.oneCell' = true) (hz : z.oneCell' = true) :
    (Instr.storeAt 45 (.pointer (some ⟨g, o, none⟩)) (.agg #[x, y, z])).run Tryz.prog w = .ok () (w.setRow g (cur.toList.take o ++ [x, y, z] ++ cur.toList.drop (o + 3)).toArray) := by
  have q := run_storeCells_at (P := Tryz.prog) g o 45 [x, y, z] 0 cur w h (by simp; omega) (fun v hv => by
    simp only [List.mem_cons, List.not_mem_nil, or_false] at hv
    rcases hv with rfl | rfl | rfl
    · exact hx
    · exact hy
    · exact hz)
  obtain ⟨ie, hie, _, hsz, _⟩ := info_parts infoItm3
  simp only [Instr.storeAt, Instr.sureAddr, Sem.run_bind, Sem.run_pure, Result.andThen_ok]
  simp only [Nat.add_zero, List.length_cons, List.length_nil, Nat.zero_add] at q
  simp [storeVar, sizeOf, typeInfo, hie, Value.cells, hsz, q]
/-- The first k items plain. -/
def mixP (levels : List ByteArray) (items : List It) (k : Nat) : List It := itF (fun i => if i < k then plnI levels (items.getD i noI) else items.getD i noI) items.length
theorem mixP_len (levels : List ByteArray) (items : List It) (k : Nat) : (mixP levels items k).length = items.length := itF_len _ _
theorem mixP_zero (levels : List ByteArray) (items : List It) : mixP levels items 0 = items := by
  apply List.ext_getElem
  · exact mixP_len _ _ _
  · intro i h1 h2
    simp [mixP, itF, List.getD_eq_getElem?_getD, h2]
theorem mixP_full (levels : List ByteArray) (items : List It) : mixP levels items items.length = plnL levels items := by
  unfold mixP plnL itF
  exact List.map_congr_left (fun i hi => if_pos (List.mem_range.1 hi))
theorem mixP_at {levels : List ByteArray} {items : List It} {k : Nat} (h : k < items.length) : (mixP levels items k).getD k noI = items.getD k noI := by
  unfold mixP
  rw [itF_getD _ h, if_neg (Nat.lt_irrefl k)]
theorem mixP_set {levels : List ByteArray} {items : List It} {k : Nat} (h : k < items.length) : (mixP levels items k).set k (plnI levels (items.getD k noI)) = mixP levels items (k + 1) := by
  apply List.ext_getElem
  · rw [List.length_set, mixP_len, mixP_len]
  · intro i h1 h2
    rw [List.getElem_set]
    simp only [mixP, itF, List.getElem_map, List.getElem_range]
    by_cases e : k = i
    · subst e; simp
    · rw [if_neg e]
      by_cases h3 : i < k
      · rw [if_pos h3, if_pos (by omega)]
      · rw [if_neg h3, if_neg (by omega)]
theorem mixP_same {levels : List ByteArray} {items : List It} {k : Nat} (e : plnI levels (items.getD k noI) = items.getD k noI) : mixP levels items (k + 1) = mixP levels items k := by
  unfold mixP itF
  refine List.map_congr_left (fun i _ => ?_)
  by_cases h : i = k
  · subst h; rw [if_pos (Nat.lt_succ_self i), if_neg (Nat.lt_irrefl i), e]
  · by_cases h3 : i < k
    · rw [if_pos h3, if_pos (by omega)]
    · rw [if_neg h3, if_neg (by omega)]
theorem PlnU.fin {w W0 wr : World} {gu r n c : Nat} {kc : Int} {sa : Option Addr} {l : List It} (h : PlnU W0 wr gu kc (.slice sa n c) l) (hr : w.heap.size ≤ r ∧ r < W0.heap.size) (hB : Below w.heap.size w W0) :
    ResV 1 (vecOf kc l) w (.returned (.agg #[.int .i64 kc, .slice sa n c, .slice none 0 0, .slice none 0 0, .slice none 0 0, .slice none 0 0, .int .i64 0, .int .i64 0])) (put8 wr r 0 (.int .i64 kc) (.slice sa n c) (.slice none 0 0) (.slice none 0 0) (.slice none 0 0) (.slice none 0 0) (.int .i64 0) (.int .i64 0)) := by
  have ho := own_vecOf (k := kc) (lo := W0.heap.size) h.row (Nat.le_refl _)
  refine ⟨_, rfl, (ho.put8 hr.2 _ _ _ _ _ _ _ _).wide (by omega) ?_, put8_below (below_then hB h.below) hr.1⟩
  rw [put8_size]
  exact Nat.le_refl _
theorem PlnU.set0 {W0 wr : World} {gu : Nat} {kc k' : Int} {v' : Value} {l : List It} (h : PlnU W0 wr gu kc v' l) : PlnU W0 (wr.setCell ⟨gu, 0, none⟩ (.int .i64 k')) gu k' v' l :=
  ⟨Joins.block_setCell h.blk _, ownsRow_kept h.row (fun g hg => Below.heap_setCell _ _ _ _ (fun e => h.ne (by rw [hg, e]))), h.ne, h.ge, h.below.setCell (p := ⟨gu, 0, none⟩) h.ge _⟩
/-- The row, opened. -/
theorem PlnU.cells {W0 wr : World} {gu n c k : Nat} {kc : Int} {sa : Option Addr} {l : List It} (h : PlnU W0 wr gu kc (.slice sa n c) l) (hk : k < l.length) : ∃ g cur, sa = some ⟨g, 0, none⟩ ∧ n = l.length ∧ W0.heap.size ≤ g ∧ g ≠ gu ∧ wr.heap[g]? = some (.cells cur 45 (0, 0)) ∧ cur[k * 3]? = some (.int .i64 (l.getD k noI).n) ∧ cur[k * 3 + 1]? = some (.int .i64 (l.getD k noI).d) ∧ cur[k * 3 + 2]? = some (.string (l.getD k noI).t) := by
  have hne := h.ne
  obtain ⟨h0, ⟨_, e⟩ | ⟨g, cap, cur, e, hB, hb, hn, hm, hs, ht⟩⟩ := h.row
  · omega
  · simp only [Value.slice.injEq] at e
    obtain ⟨rfl, rfl, rfl⟩ := e
    have e3 : ∀ j, j < l.length * 3 → cur[j]? = (itCells l)[j]? := fun j hj => by rw [← ht, List.getElem?_take, if_pos hj, Array.getElem?_toList]
    obtain ⟨q0, q1, q2⟩ := itCells_at l k hk
    exact ⟨g, cur, rfl, rfl, hB, fun e => hne (by rw [← e]; rfl), hb, (e3 _ (by omega)).trans q0, (e3 _ (by omega)).trans q1, (e3 _ (by omega)).trans q2⟩
theorem PlnU.put {W0 wr : World} {gu n c k g o : Nat} {kc : Int} {l : List It} {cur : Array Value} {z : It} (h : PlnU W0 wr gu kc (.slice (some ⟨g, 0, none⟩) n c) l) (hg : wr.heap[g]? = some (.cells cur 45 (0, 0))) (hk : k < l.length) (ho : o = k * 3) : o + 3 ≤ cur.size ∧ PlnU W0 (wr.setRow g (cur.toList.take o ++ [Value.int .i64 z.n, .int .i64 z.d, .string z.t] ++ cur.toList.drop (o + 3)).toArray) gu kc (.slice (some ⟨g, 0, none⟩) n c) (l.set k z) := by
  subst ho
  obtain ⟨h1, h2⟩ := row_setI (z := z) h.row hg hk
  have hge := (h.row.lt g rfl).1
  refine ⟨h1, row_old h.blk (fun e => h.ne (by rw [e]; rfl)), ?_, h.ne, h.ge, below_row h.below hge _⟩
  rw [List.length_set]
  exact h2
theorem plnL_no {levels : List ByteArray} {items : List It} (h : levels.length = 0) : plnL levels items = items := by
  apply List.ext_getElem
  · exact plnL_len _ _
  · intro i h1 h2
    have e : plnI levels (items.getD i noI) = items.getD i noI := pln_same (.inr h)
    simp only [plnL, itF, List.getElem_map, List.getElem_range]
    rw [e]
    simp [List.getD_eq_getElem?_getD, h2]
set_option maxHeartbeats 8000000 in
theorem specPlain (d : Nat) (kk : Int) (items : List It) (parts : List Vec) (names cls levels : List ByteArray) (code env : Int) (val : Value) (lo hi : Nat) (w : World) (hv : VecAt lo hi w d (.mk kk items parts names cls levels code env) val) (hhi : hi ≤ w.heap.size) (ok : AtmOk kk items levels) :
    Calls Tryz.prog 16 #[val] w (ResV 1 (vecOf (plnK kk levels) (plnL levels items)) w) := by
  obtain ⟨d', ai, ci, ap, cp, an, cn, ac, cc, al, cl, ed, rfl, hI, hN, hC, hL, hP⟩ := vecAt_open hv
  have NI := Lib.hid (fun (W : World) (hb : Below w.heap.size w W) (hp : 0 < items.length) => show ∃ ad : Addr, ai = some ad ∧ ∀ j u, (itCells items)[j]? = some u → W.cell? (ad.add j) = some u from by
    have h := hI.below hb hhi
    obtain ⟨b, off, rfl⟩ := items_some h hp
    exact ⟨_, rfl, itCells_in h⟩)
  have li := ok.len
  obtain ⟨ieI, hieI⟩ := info_parts infoItm3
  clear hv hP hN hC ed
  obtain ⟨W0, hW0⟩ : ∃ W, (w.alloc (.cells #[.int .i64 kk, .slice ai items.length ci, .slice ap parts.length cp, .slice an names.length cn, .slice ac cls.length cc, .slice al levels.length cl, .int .i64 code, .int .i64 env] 31)).alloc (.cells #[.int .i64 0, .slice none 0 0, .slice none 0 0, .slice none 0 0, .slice none 0 0, .slice none 0 0, .int .i64 0, .int .i64 0] 31) = W := ⟨_, rfl⟩
  have hsz : (w.alloc (.cells #[.int .i64 kk, .slice ai items.length ci, .slice ap parts.length cp, .slice an names.length cn, .slice ac cls.length cc, .slice al levels.length cl, .int .i64 code, .int .i64 env] 31)).heap.size = w.heap.size + 1 := by simp
  have BW0 := Lib.hid (show Below w.heap.size w W0 from hW0 ▸ below2 w _ _)
  have SW0 := Lib.hid (show W0.heap.size = w.heap.size + 2 by rw [← hW0]; simp)
  have KARG0 := Lib.hid (show W0.heap[w.heap.size]? = some (.cells #[.int .i64 kk, .slice ai items.length ci, .slice ap parts.length cp, .slice an names.length cn, .slice ac cls.length cc, .slice al levels.length cl, .int .i64 code, .int .i64 env] 31 (0, 0)) from hW0 ▸ blk_old (blk_new w _ rfl))
  have KR0 := Lib.hid (show W0.heap[w.heap.size + 1]? = some (.cells #[.int .i64 0, .slice none 0 0, .slice none 0 0, .slice none 0 0, .slice none 0 0, .slice none 0 0, .int .i64 0, .int .i64 0] 31 (0, 0)) from hW0 ▸ blk_new _ _ hsz.symm)
  have EW := Lib.hid hW0
  clear hW0 hsz
  have NI := Lib.hid (fun (W : World) (hb : Below W0.heap.size W0 W) => NI.out W (below_then BW0.out hb))
  have H := Lib.hid (show HeldC W0 W0 ([(w.heap.size, 31, #[.int .i64 kk, .slice ai items.length ci, .slice ap parts.length cp, .slice an names.length cn, .slice ac cls.length cc, .slice al levels.length cl, .int .i64 code, .int .i64 env])]) from ⟨Below.refl _ _, fun q hq => by obtain rfl := List.mem_singleton.1 hq; exact KARG0.out⟩)
  go_enter Tryz.func16, Tryz.ntmps16
  go_upto_region 1 with (fail)
  rw [EW.out]
  go_cut [3] from 5 to 11 (fun pu wx => ∃ (gu : Nat) (sa : Option Addr) (c : Nat), pu = .pointer (some ⟨gu, 0, none⟩) ∧ PlnU W0 wx gu kk (.slice sa items.length c) items)
  case first =>
    refine run_regionT (ops := (opsOf Tryz.f16 1)) (S := fun w' => HeldC W0 w' ([(w.heap.size, 31, #[.int .i64 kk, .slice ai items.length ci, .slice ap parts.length cp, .slice an names.length cn, .slice ac cls.length cc, .slice al levels.length cl, .int .i64 code, .int .i64 env])])) (.fork [(0, true), (1, true), (3, true), (4, true)] 2 (.fork [] 5 (.leaf [(6, true), (7, false), (8, false)]) 7 (.leaf [(5, false), (6, true), (8, false)])) 7 (.leaf [(2, false), (5, false), (6, true), (8, false)])) (by kernel_rfl) (by kernel_rfl) (by kernel_rfl) (by kernel_rfl) (by kernel_rfl) (fun _ _ _ _ _ h => h) (heldC_drew H.out) ?_
    have H := Lib.hid (heldC_drew H.out)
    refine runC_partV (b := w.heap.size) (by kernel_rfl) (show opAt (opsOf Tryz.f16 1) 0 = some (some 5, .fieldAddr 31 (.tmp 1) 0, none) from by kernel_rfl) (by kernel_rfl) (by kernel_rfl) (by kernel_rfl) ?_
    refine runC_cell (b := w.heap.size) (j := 0) (v := .int .i64 kk) load_int (show opAt (opsOf Tryz.f16 1) 1 = some (some 6, .load 3 (.tmp 5), none) from by kernel_rfl) (by kernel_rfl) (by kernel_rfl) (by kernel_rfl) (List.Mem.head _) rfl ?_
    refine runC_partV (b := w.heap.size) (by kernel_rfl) (show opAt (opsOf Tryz.f16 1) 3 = some (some 8, .fieldAddr 31 (.tmp 1) 1, none) from by kernel_rfl) (by kernel_rfl) (by kernel_rfl) (by kernel_rfl) ?_
    refine runC_cell (b := w.heap.size) (j := 1) (v := .slice ai items.length ci) load_its (show opAt (opsOf Tryz.f16 1) 4 = some (some 9, .load 28 (.tmp 8), none) from by kernel_rfl) (by kernel_rfl) (by kernel_rfl) (by kernel_rfl) (List.Mem.head _) rfl ?_
    refine run_fork H.out (by kernel_rfl) (by kernel_rfl) ?_ ?_
    · refine run_mk0I (show opAt (opsOf Tryz.f16 1) 2 = some (some 7, .buildSlice 28 0 #[], none) from by kernel_rfl) (by kernel_rfl) (by kernel_rfl) (fun W2 n2 hW2 hn2 => ?_)
      subst hW2
      have KE := Lib.hid (show (_ : World).ownsRow W0.heap.size 45 3 (.slice (some ⟨n2, 0, none⟩) 0 0) 0 [] from ⟨by simp, .inr ⟨n2, 0, #[], rfl, by rw [hn2]; exact H.out.1.size, blk_new _ _ hn2, Nat.le_refl _, Nat.zero_le _, by simp, by simp⟩⟩)
      refine ⟨heldC_call H.out (below1 _ (.cells #[] 45)), ?_⟩
      have H := Lib.hid (heldC_call H.out (below1 _ (.cells #[] 45)))
      clear hn2
      refine run_fork H.out (by kernel_rfl) (by kernel_rfl) ?_ ?_
      · refine run_appM (P := Tryz.prog) (show opAt (opsOf Tryz.f16 1) 5 = some (some 10, .call { callee := .builtin .append, args := [(.tmp 7), (.tmp 9)].toArray, argTypes := [28, 28].toArray }, none) from by kernel_rfl) (by kernel_rfl) (by kernel_rfl) (by kernel_rfl) ai items.length ci (by kernel_rfl) W0.heap.size ieI _ 3 32 Tryz.underlying28 hieI.1 hieI.2.1 hieI.2.2.1 hieI.2.2.2 rfl (by decide) 0 [] KE.out (fun _ => rfl) (itCells items) (itCells_len _) (NI.out _ H.out.1) (itCells_one items) (by unfold maxLen; omega) (by omega) H.out.1.size (fun v' W5 hO hg hwh => ?_)
        rw [Nat.zero_add, List.nil_append] at hO
        obtain ⟨sa, c, rfl⟩ := row_formS hO
        have HG := Lib.hid (heldC_grown H.out hg (fun k hk => ⟨(KE.out.lt k hk).1, fun q hq => by obtain rfl := List.mem_singleton.1 hq; have := (KE.out.lt k hk).1; have := SW0.out; simp only; omega⟩))
        refine ⟨HG.out, ?_⟩
        have H := HG
        have RW := Lib.hid hO
        clear HG hO hg hwh KE
        refine run_bldI (k := kk) (sa := sa) (n := items.length) (m := c) (show opAt (opsOf Tryz.f16 1) 6 = some (some 11, .build 31 #[(0, (.tmp 6)), (1, (.tmp 10))], none) from by kernel_rfl) (by kernel_rfl) (by kernel_rfl) (by kernel_rfl) (by kernel_rfl) ?_
        refine run_new (C := #[.int .i64 0, .slice none 0 0, .slice none 0 0, .slice none 0 0, .slice none 0 0, .slice none 0 0, .int .i64 0, .int .i64 0]) (show opAt (opsOf Tryz.f16 1) 7 = some (some 3, .alloc 31, none) from by kernel_rfl) (by kernel_rfl) (by kernel_rfl) new_vec (fun W7 n7 hW7 hn7 => ?_)
        subst hW7
        have NV := Lib.hid (⟨blk_new _ _ hn7⟩ : NewB n7 31 #[.int .i64 0, .slice none 0 0, .slice none 0 0, .slice none 0 0, .slice none 0 0, .slice none 0 0, .int .i64 0, .int .i64 0] _)
        have GV := Lib.hid (by rw [hn7]; exact H.out.1.size : W0.heap.size ≤ n7)
        have NE := Lib.hid (fun e => by have := (RW.out.lt n7 e).2; omega : (Value.slice sa items.length c).ownBlock ≠ some n7)
        have RW := Lib.hid (ownsRow_below RW.out (below1 _ (.cells #[.int .i64 0, .slice none 0 0, .slice none 0 0, .slice none 0 0, .slice none 0 0, .slice none 0 0, .int .i64 0, .int .i64 0] 31)))
        refine ⟨heldC_call H.out (below1 _ (.cells #[.int .i64 0, .slice none 0 0, .slice none 0 0, .slice none 0 0, .slice none 0 0, .slice none 0 0, .int .i64 0, .int .i64 0] 31)), ?_⟩
        have H := Lib.hid (heldC_call H.out (below1 _ (.cells #[.int .i64 0, .slice none 0 0, .slice none 0 0, .slice none 0 0, .slice none 0 0, .slice none 0 0, .int .i64 0, .int .i64 0] 31)))
        clear hn7
        refine run_last (by kernel_rfl) (show opAt (opsOf Tryz.f16 1) 8 = some (none, .store 31 (.tmp 3) (.tmp 11), none) from by kernel_rfl) (by kernel_rfl) (by kernel_rfl) (by kernel_rfl) (store_vec8 NV.out.out (show (#[.int .i64 kk, .slice sa items.length c, .slice none 0 0, .slice none 0 0, .slice none 0 0, .slice none 0 0, .int .i64 0, .int .i64 0] : Array Value).all (·.oneCell') = true from by simp [Value.oneCell'])) ?_
        refine run_done ?_
        simp only [putAll, Act.put, List.setIfInBounds_toArray, List.set_cons_zero, List.set_cons_succ]
        have PU := Lib.hid (plnU_end (kk := kk) NV.out.out RW.out NE.out GV.out H.out.1)
        clear NV RW NE GV H
        go_wp2_with fail
        go_meet
        exact ⟨n7, sa, c, rfl, PU.out⟩
      · refine run_new (C := #[.int .i64 0, .slice none 0 0, .slice none 0 0, .slice none 0 0, .slice none 0 0, .slice none 0 0, .int .i64 0, .int .i64 0]) (show opAt (opsOf Tryz.f16 1) 7 = some (some 3, .alloc 31, none) from by kernel_rfl) (by kernel_rfl) (by kernel_rfl) new_vec (fun W7 n7 hW7 hn7 => ?_)
        subst hW7
        have NV := Lib.hid (⟨blk_new _ _ hn7⟩ : NewB n7 31 #[.int .i64 0, .slice none 0 0, .slice none 0 0, .slice none 0 0, .slice none 0 0, .slice none 0 0, .int .i64 0, .int .i64 0] _)
        have GV := Lib.hid (by rw [hn7]; exact H.out.1.size : W0.heap.size ≤ n7)
        have NE := Lib.hid (fun e => by have := (KE.out.lt n2 rfl).2; omega : n2 ≠ n7)
        have KE := Lib.hid (ownsRow_below KE.out (below1 _ (.cells #[.int .i64 0, .slice none 0 0, .slice none 0 0, .slice none 0 0, .slice none 0 0, .slice none 0 0, .int .i64 0, .int .i64 0] 31)))
        refine ⟨heldC_call H.out (below1 _ (.cells #[.int .i64 0, .slice none 0 0, .slice none 0 0, .slice none 0 0, .slice none 0 0, .slice none 0 0, .int .i64 0, .int .i64 0] 31)), ?_⟩
        have H := Lib.hid (heldC_call H.out (below1 _ (.cells #[.int .i64 0, .slice none 0 0, .slice none 0 0, .slice none 0 0, .slice none 0 0, .slice none 0 0, .int .i64 0, .int .i64 0] 31)))
        clear hn7
        have LT7 := Lib.hid (Array.getElem?_eq_some_iff.1 NV.out.out).1
        refine run_appM (P := Tryz.prog) (show opAt (opsOf Tryz.f16 1) 5 = some (some 10, .call { callee := .builtin .append, args := [(.tmp 7), (.tmp 9)].toArray, argTypes := [28, 28].toArray }, none) from by kernel_rfl) (by kernel_rfl) (by kernel_rfl) (by kernel_rfl) ai items.length ci (by kernel_rfl) W0.heap.size ieI _ 3 32 Tryz.underlying28 hieI.1 hieI.2.1 hieI.2.2.1 hieI.2.2.2 rfl (by decide) 0 [] KE.out (fun _ => rfl) (itCells items) (itCells_len _) (NI.out _ H.out.1) (itCells_one items) (by unfold maxLen; omega) (by omega) H.out.1.size (fun v' W5 hO hg hwh => ?_)
        rw [Nat.zero_add, List.nil_append] at hO
        obtain ⟨sa, c, rfl⟩ := row_formS hO
        have NV := Lib.hid (⟨(hg.block _ (Array.getElem?_eq_some_iff.1 NV.out.out).1 (fun e => NE.out (Option.some.inj (show some n7 = some n2 from e)).symm)).trans NV.out.out⟩ : NewB n7 31 #[.int .i64 0, .slice none 0 0, .slice none 0 0, .slice none 0 0, .slice none 0 0, .slice none 0 0, .int .i64 0, .int .i64 0] W5)
        have NE := Lib.hid (fun e => by rcases hwh with q | q <;> (rw [q] at e; first | exact NE.out (Option.some.inj (show some n2 = some n7 from e)) | (have := LT7.out; have := Option.some.inj e; omega)) : (Value.slice sa items.length c).ownBlock ≠ some n7)
        have HG := Lib.hid (heldC_grown H.out hg (fun k hk => ⟨(KE.out.lt k hk).1, fun q hq => by obtain rfl := List.mem_singleton.1 hq; have := (KE.out.lt k hk).1; have := SW0.out; simp only; omega⟩))
        refine ⟨HG.out, ?_⟩
        have H := HG
        have RW := Lib.hid hO
        clear HG hO hg hwh KE
        refine run_bldI (k := kk) (sa := sa) (n := items.length) (m := c) (show opAt (opsOf Tryz.f16 1) 6 = some (some 11, .build 31 #[(0, (.tmp 6)), (1, (.tmp 10))], none) from by kernel_rfl) (by kernel_rfl) (by kernel_rfl) (by kernel_rfl) (by kernel_rfl) ?_
        refine run_last (by kernel_rfl) (show opAt (opsOf Tryz.f16 1) 8 = some (none, .store 31 (.tmp 3) (.tmp 11), none) from by kernel_rfl) (by kernel_rfl) (by kernel_rfl) (by kernel_rfl) (store_vec8 NV.out.out (show (#[.int .i64 kk, .slice sa items.length c, .slice none 0 0, .slice none 0 0, .slice none 0 0, .slice none 0 0, .int .i64 0, .int .i64 0] : Array Value).all (·.oneCell') = true from by simp [Value.oneCell'])) ?_
        refine run_done ?_
        simp only [putAll, Act.put, List.setIfInBounds_toArray, List.set_cons_zero, List.set_cons_succ]
        have PU := Lib.hid (plnU_end (kk := kk) NV.out.out RW.out NE.out GV.out H.out.1)
        clear NV RW NE GV H
        go_wp2_with fail
        go_meet
        exact ⟨n7, sa, c, rfl, PU.out⟩
    · refine run_new (C := #[.int .i64 0, .slice none 0 0, .slice none 0 0, .slice none 0 0, .slice none 0 0, .slice none 0 0, .int .i64 0, .int .i64 0]) (show opAt (opsOf Tryz.f16 1) 7 = some (some 3, .alloc 31, none) from by kernel_rfl) (by kernel_rfl) (by kernel_rfl) new_vec (fun W7 n7 hW7 hn7 => ?_)
      subst hW7
      have NV := Lib.hid (⟨blk_new _ _ hn7⟩ : NewB n7 31 #[.int .i64 0, .slice none 0 0, .slice none 0 0, .slice none 0 0, .slice none 0 0, .slice none 0 0, .int .i64 0, .int .i64 0] _)
      have GV := Lib.hid (by rw [hn7]; exact H.out.1.size : W0.heap.size ≤ n7)
      refine ⟨heldC_call H.out (below1 _ (.cells #[.int .i64 0, .slice none 0 0, .slice none 0 0, .slice none 0 0, .slice none 0 0, .slice none 0 0, .int .i64 0, .int .i64 0] 31)), ?_⟩
      have H := Lib.hid (heldC_call H.out (below1 _ (.cells #[.int .i64 0, .slice none 0 0, .slice none 0 0, .slice none 0 0, .slice none 0 0, .slice none 0 0, .int .i64 0, .int .i64 0] 31)))
      clear hn7
      refine run_mk0I (show opAt (opsOf Tryz.f16 1) 2 = some (some 7, .buildSlice 28 0 #[], none) from by kernel_rfl) (by kernel_rfl) (by kernel_rfl) (fun W2 n2 hW2 hn2 => ?_)
      subst hW2
      have KE := Lib.hid (show (_ : World).ownsRow W0.heap.size 45 3 (.slice (some ⟨n2, 0, none⟩) 0 0) 0 [] from ⟨by simp, .inr ⟨n2, 0, #[], rfl, by rw [hn2]; exact H.out.1.size, blk_new _ _ hn2, Nat.le_refl _, Nat.zero_le _, by simp, by simp⟩⟩)
      have NE := Lib.hid (by rw [hn2]; exact Nat.ne_of_gt (Array.getElem?_eq_some_iff.1 NV.out.out).1 : n2 ≠ n7)
      have NV := Lib.hid (NV.out.keep (below1 _ (.cells #[] 45)))
      refine ⟨heldC_call H.out (below1 _ (.cells #[] 45)), ?_⟩
      have H := Lib.hid (heldC_call H.out (below1 _ (.cells #[] 45)))
      clear hn2
      have LT7 := Lib.hid (Array.getElem?_eq_some_iff.1 NV.out.out).1
      refine run_appM (P := Tryz.prog) (show opAt (opsOf Tryz.f16 1) 5 = some (some 10, .call { callee := .builtin .append, args := [(.tmp 7), (.tmp 9)].toArray, argTypes := [28, 28].toArray }, none) from by kernel_rfl) (by kernel_rfl) (by kernel_rfl) (by kernel_rfl) ai items.length ci (by kernel_rfl) W0.heap.size ieI _ 3 32 Tryz.underlying28 hieI.1 hieI.2.1 hieI.2.2.1 hieI.2.2.2 rfl (by decide) 0 [] KE.out (fun _ => rfl) (itCells items) (itCells_len _) (NI.out _ H.out.1) (itCells_one items) (by unfold maxLen; omega) (by omega) H.out.1.size (fun v' W5 hO hg hwh => ?_)
      rw [Nat.zero_add, List.nil_append] at hO
      obtain ⟨sa, c, rfl⟩ := row_formS hO
      have NV := Lib.hid (⟨(hg.block _ (Array.getElem?_eq_some_iff.1 NV.out.out).1 (fun e => NE.out (Option.some.inj (show some n7 = some n2 from e)).symm)).trans NV.out.out⟩ : NewB n7 31 #[.int .i64 0, .slice none 0 0, .slice none 0 0, .slice none 0 0, .slice none 0 0, .slice none 0 0, .int .i64 0, .int .i64 0] W5)
      have NE := Lib.hid (fun e => by rcases hwh with q | q <;> (rw [q] at e; first | exact NE.out (Option.some.inj (show some n2 = some n7 from e)) | (have := LT7.out; have := Option.some.inj e; omega)) : (Value.slice sa items.length c).ownBlock ≠ some n7)
      have HG := Lib.hid (heldC_grown H.out hg (fun k hk => ⟨(KE.out.lt k hk).1, fun q hq => by obtain rfl := List.mem_singleton.1 hq; have := (KE.out.lt k hk).1; have := SW0.out; simp only; omega⟩))
      refine ⟨HG.out, ?_⟩
      have H := HG
      have RW := Lib.hid hO
      clear HG hO hg hwh KE
      refine run_bldI (k := kk) (sa := sa) (n := items.length) (m := c) (show opAt (opsOf Tryz.f16 1) 6 = some (some 11, .build 31 #[(0, (.tmp 6)), (1, (.tmp 10))], none) from by kernel_rfl) (by kernel_rfl) (by kernel_rfl) (by kernel_rfl) (by kernel_rfl) ?_
      refine run_last (by kernel_rfl) (show opAt (opsOf Tryz.f16 1) 8 = some (none, .store 31 (.tmp 3) (.tmp 11), none) from by kernel_rfl) (by kernel_rfl) (by kernel_rfl) (by kernel_rfl) (store_vec8 NV.out.out (show (#[.int .i64 kk, .slice sa items.length c, .slice none 0 0, .slice none 0 0, .slice none 0 0, .slice none 0 0, .int .i64 0, .int .i64 0] : Array Value).all (·.oneCell') = true from by simp [Value.oneCell'])) ?_
      refine run_done ?_
      simp only [putAll, Act.put, List.setIfInBounds_toArray, List.set_cons_zero, List.set_cons_succ]
      have PU := Lib.hid (plnU_end (kk := kk) NV.out.out RW.out NE.out GV.out H.out.1)
      clear NV RW NE GV H
      go_wp2_with fail
      go_meet
      exact ⟨n7, sa, c, rfl, PU.out⟩

  case rest =>
    obtain ⟨wp, rfl⟩ : ∃ u : World, u = wc := ⟨_, rfl⟩
    obtain ⟨gu, sa, c, rfl, hp⟩ := hcut
    have PU := Lib.hid hp
    have KA := Lib.hid (blk_below PU.out.below KARG0.out)
    have KR := Lib.hid (blk_below PU.out.below KR0.out)
    have HTX := Lib.hid hL
    have HIT := Lib.hid (fun (k : Nat) (hk : k < items.length) => hI.at_ hk)
    have OK := Lib.hid ok
    clear hp H NI EW hI hL ok hieI
    by_cases hl : levels.length = 0
    · have ER := Lib.hid (show vecOf (plnK kk levels) (plnL levels items) = vecOf kk items by rw [plnK_no hl, plnL_no hl])
      rw [hl] at KA ⊢
      obtain ⟨n, hn⟩ : ∃ n, items.length = n := ⟨_, rfl⟩
      rw [hn] at PU KA li ⊢
      clear hn hl KARG0 HTX HIT OK
      obtain ⟨k0, k1, k2, k3, k4, k5, k6, k7⟩ := vec8 KA.out
      go_wp2
      go_loopw [4] (fun i wr => i = .int .i64 0 ∧ wr = wp) (fun _ _ => 0)
      case atStart => exact ⟨rfl, rfl⟩
      case round =>
        obtain ⟨rfl, rfl⟩ := hrel
        obtain ⟨y0, y1, y2, y3, y4, y5, y6, y7⟩ := vec8 PU.out.blk
        obtain ⟨z0, z1, z2, z3, z4, z5, z6, z7⟩ := vec8 KR.out
        obtain ⟨f0, f1, f2, f3, f4, f5, f6, f7⟩ := free8 KR.out
        by_cases h0 : n = 0
        · subst h0
          go_wp2
          rw [ER.out]
          exact vec_end rfl rfl rfl KR.out (PU.out.fin (by have := SW0.out; omega) BW0.out)
        · have hpos : 0 < (n : Int) := by omega
          go_wp2
          rw [ER.out]
          exact vec_end rfl rfl rfl KR.out (PU.out.fin (by have := SW0.out; omega) BW0.out)
    · have ER := Lib.hid (show vecOf (plnK kk levels) (plnL levels items) = vecOf 3 (mixP levels items items.length) by rw [plnK_yes hl, mixP_full])
      have LK := Lib.hid (fun (k : Nat) (hk : k < items.length) => OK.out.its k hk)
      have TX := Lib.hid (fun (j : Nat) (hj : j < levels.length) => HTX.out j (levels.getD j ⟨#[]⟩) (by rw [List.getD_eq_getElem?_getD, List.getElem?_eq_getElem hj]; rfl))
      have PL := Lib.hid (fun (x : It) (h : ¬ x.d = 0) => pln_lev (levels := levels) (x := x) (by omega))
      have PS := Lib.hid (fun (x : It) (h : x.d = 0) => pln_same (levels := levels) (x := x) (.inl h))
      have ll := OK.out.llen
      obtain ⟨nl, hnl⟩ : ∃ nl, levels.length = nl := ⟨_, rfl⟩
      rw [hnl] at KA KARG0 TX LK hl ll ⊢
      clear hnl
      have hl0 : 0 < (nl : Int) := by omega
      obtain ⟨n, hn⟩ : ∃ n, items.length = n := ⟨_, rfl⟩
      have HN := Lib.hid hn
      rw [hn] at PU KA KARG0 li LK HIT ER ⊢
      clear hn HTX OK
      obtain ⟨k0, k1, k2, k3, k4, k5, k6, k7⟩ := vec8 KA.out
      go_wp2
      clear k0 k1 k2 k3 k4 k5 k6 k7
      go_loopw [4] (fun i wr => ∃ (k : Nat) (kc : Int), k ≤ n ∧ i = .int .i64 k ∧ PlnU W0 wr gu kc (.slice sa n c) (mixP levels items k)) (fun i _ => n - (intOf i).toNat)
      case atStart => exact ⟨0, kk, Nat.zero_le _, rfl, by rw [mixP_zero]; exact PU.out⟩
      case round =>
        obtain ⟨k, kc, hk, rfl, hp⟩ := hrel
        clear PU KA KR
        have PU := Lib.hid hp
        have KA := Lib.hid (blk_below PU.out.below KARG0.out)
        have KR := Lib.hid (blk_below PU.out.below KR0.out)
        clear hp
        obtain ⟨k0, k1, k2, k3, k4, k5, k6, k7⟩ := vec8 KA.out
        obtain ⟨y0, y1, y2, y3, y4, y5, y6, y7⟩ := vec8 PU.out.blk
        obtain ⟨e0, e1, e2, e3, e4, e5, e6, e7⟩ := free8 PU.out.blk
        have hgA : ¬ w.heap.size = gu := by have := PU.out.ge; have := SW0.out; omega
        by_cases hlt : k < n
        · obtain ⟨g, cur, rfl, -, hge, hgu, hg, q0, q1, q2⟩ := PU.out.cells (k := k) (by rw [mixP_len, HN.out]; exact hlt)
          rw [mixP_at (by rw [HN.out]; exact hlt)] at q0 q1 q2
          have KG := Lib.hid hg
          have EK := Lib.hid (fun h => mixP_same (levels := levels) (items := items) (k := k) h)
          obtain ⟨hx0, hx1⟩ := LK.out k hlt
          obtain ⟨ba, off, rfl, hbB, c0, c1, c2⟩ := HIT.out k hlt
          have EXK := Lib.hid (mixP_set (levels := levels) (items := items) (k := k) (by rw [HN.out]; exact hlt))
          obtain ⟨x, hx⟩ : ∃ x, items.getD k noI = x := ⟨_, rfl⟩
          rw [hx] at q0 q1 q2 EK hx0 hx1 c0 EXK
          have u1 : wr.cell? ⟨g, k * 3 + 1, none⟩ = some (.int .i64 x.d) := cellOf hg q1
          have PU1 := Lib.hid (PU.out.set0 (k' := 3))
          clear hg q0 q1 q2 hx c1 c2
          by_cases hd : x.d = 0
          · have PM := Lib.hid (show PlnU W0 (wr.setCell ⟨gu, 0, none⟩ (.int .i64 3)) gu 3 (.slice (some ⟨g, 0, none⟩) n c) (mixP levels items (k + 1)) from by rw [EK.out (PS.out x hd)]; exact PU1.out)
            go_wp2
            go_roundw
            case rel => first | exact ⟨k + 1, 3, by omega, by go_num, PM.out⟩ | ((repeat apply Exists.intro); exact ⟨⟨k + 1, 3, by omega, by go_num, PM.out⟩, rfl⟩)
            case measure => simp [intOf]; omega
          · obtain ⟨h1, h2, h3⟩ : x.d = 1 ∧ 1 ≤ x.n ∧ x.n ≤ (nl : Int) := by
              rcases hx1 with q | q | q
              · omega
              · exact absurd q hd
              · exact q
            obtain ⟨m, hm0⟩ : ∃ m : Nat, (x.n - 1).toNat = m := ⟨_, rfl⟩
            have hm : m < nl := by omega
            obtain ⟨bl, ol, rfl, _, hbl', hcs⟩ := TX.out m hm
            have hba : ba < w.heap.size := by omega
            have hbl : bl < w.heap.size := by omega
            have WS := Lib.hid (show IntKind.i64.wrap (x.n - 1) = (m : Int) by rw [show x.n - 1 = (m : Int) by omega]; exact wrap64_id (by omega) (by omega))
            obtain ⟨s, hs⟩ : ∃ s, levels.getD m ⟨#[]⟩ = s := ⟨_, rfl⟩
            have EX := Lib.hid (show txE s = plnI levels x by rw [PL.out x hd, hm0, hs])
            rw [hs] at hcs
            have CX := Lib.hid c0
            have CS := Lib.hid hcs
            have CT := Lib.hid (fun W => specTxtItem s W)
            clear c0 hcs hs hx0 hx1 h1 h2 h3 hm0 EK
            go_wp2
            obtain ⟨w1, hw1⟩ : ∃ W, wr.setCell ⟨gu, 0, none⟩ (.int .i64 3) = W := ⟨_, rfl⟩
            have KG := Lib.hid (show w1.heap[g]? = some (.cells cur 45 (0, 0)) from hw1 ▸ (Below.heap_setCell _ _ _ _ hgu).trans KG.out)
            have PU1 := Lib.hid (show PlnU W0 w1 gu 3 (.slice (some ⟨g, 0, none⟩) n c) (mixP levels items k) from hw1 ▸ PU1.out)
            have KA := Lib.hid (show w1.heap[w.heap.size]? = _ from hw1 ▸ (Below.heap_setCell _ _ _ _ hgA).trans KA.out)
            rw [hw1]
            clear hw1
            have H := Lib.hid (show HeldC w w1 ([(gu, 31, #[.int .i64 3, .slice (some ⟨g, 0, none⟩) n c, .slice none 0 0, .slice none 0 0, .slice none 0 0, .slice none 0 0, .int .i64 0, .int .i64 0]), (w.heap.size, 31, #[.int .i64 kk, .slice (some ⟨ba, off, none⟩) n ci, .slice ap parts.length cp, .slice an names.length cn, .slice ac cls.length cc, .slice (some ⟨bl, ol, none⟩) nl cl, .int .i64 code, .int .i64 env])]) from ⟨below_then BW0.out PU1.out.below, fun q hq => by
              simp only [List.mem_cons, List.not_mem_nil, or_false] at hq
              rcases hq with rfl | rfl
              · exact PU1.out.blk
              · exact KA.out⟩)
            refine run_region (ops := (opsOf Tryz.f16 7)) (S := fun w' => HeldC w w' ([(gu, 31, #[.int .i64 3, .slice (some ⟨g, 0, none⟩) n c, .slice none 0 0, .slice none 0 0, .slice none 0 0, .slice none 0 0, .int .i64 0, .int .i64 0]), (w.heap.size, 31, #[.int .i64 kk, .slice (some ⟨ba, off, none⟩) n ci, .slice ap parts.length cp, .slice an names.length cn, .slice ac cls.length cc, .slice (some ⟨bl, ol, none⟩) nl cl, .int .i64 code, .int .i64 env])])) [(0, true), (1, true), (2, true), (3, true), (4, true), (5, true), (6, true), (7, true), (8, true), (9, true), (10, true), (11, true), (12, true), (13, true), (14, false), (15, true), (16, false)] (by kernel_rfl) (by kernel_rfl) (by kernel_rfl) (by kernel_rfl) (by kernel_rfl) (fun _ _ _ _ _ h => h) (heldC_drew H.out) ?_
            have H := Lib.hid (heldC_drew H.out)
            have PU1 := Lib.hid (PU1.out.keep (below_drew' (Below.refl _ _)))
            have KG := Lib.hid (blk_drew KG.out)
            refine runC_partV (b := gu) (by kernel_rfl) (show opAt (opsOf Tryz.f16 7) 0 = some (some 33, .fieldAddr 31 (.tmp 3) 1, none) from by kernel_rfl) (by kernel_rfl) (by kernel_rfl) (by kernel_rfl) ?_
            refine runC_cell (b := gu) (j := 1) (v := .slice (some ⟨g, 0, none⟩) n c) load_its (show opAt (opsOf Tryz.f16 7) 1 = some (some 34, .load 28 (.tmp 33), none) from by kernel_rfl) (by kernel_rfl) (by kernel_rfl) (by kernel_rfl) (List.Mem.head _) rfl ?_
            refine run_mov (v := .int .i64 (k : Int)) (show opAt (opsOf Tryz.f16 7) 2 = some (some 35, .move (.tmp 4), none) from by kernel_rfl) (by kernel_rfl) (by kernel_rfl) (by kernel_rfl) ?_
            refine runC_partV (b := w.heap.size) (by kernel_rfl) (show opAt (opsOf Tryz.f16 7) 3 = some (some 36, .fieldAddr 31 (.tmp 1) 5, none) from by kernel_rfl) (by kernel_rfl) (by kernel_rfl) (by kernel_rfl) ?_
            refine runC_cell (b := w.heap.size) (j := 5) (v := .slice (some ⟨bl, ol, none⟩) nl cl) load_strs (show opAt (opsOf Tryz.f16 7) 4 = some (some 37, .load 24 (.tmp 36), none) from by kernel_rfl) (by kernel_rfl) (by kernel_rfl) (by kernel_rfl) (List.Mem.tail _ (List.Mem.head _)) rfl ?_
            refine runC_partV (b := w.heap.size) (by kernel_rfl) (show opAt (opsOf Tryz.f16 7) 5 = some (some 38, .fieldAddr 31 (.tmp 1) 1, none) from by kernel_rfl) (by kernel_rfl) (by kernel_rfl) (by kernel_rfl) ?_
            refine runC_cell (b := w.heap.size) (j := 1) (v := .slice (some ⟨ba, off, none⟩) n ci) load_its (show opAt (opsOf Tryz.f16 7) 6 = some (some 39, .load 28 (.tmp 38), none) from by kernel_rfl) (by kernel_rfl) (by kernel_rfl) (by kernel_rfl) (List.Mem.tail _ (List.Mem.head _)) rfl ?_
            refine run_mov (v := .int .i64 (k : Int)) (show opAt (opsOf Tryz.f16 7) 7 = some (some 40, .move (.tmp 4), none) from by kernel_rfl) (by kernel_rfl) (by kernel_rfl) (by kernel_rfl) ?_
            refine run_idx3 (n := n) (c := ci) (b := ba) (off := off) (k := k) (show opAt (opsOf Tryz.f16 7) 8 = some (some 41, .indexAddr 28 (.tmp 39) (.tmp 40), none) from by kernel_rfl) (by kernel_rfl) (by kernel_rfl) (by kernel_rfl) (by kernel_rfl) hlt ?_
            refine runC_partJ (b := ba) (o := off + k * 3) (by kernel_rfl) (show opAt (opsOf Tryz.f16 7) 9 = some (some 42, .fieldAddr 45 (.tmp 41) 0, none) from by kernel_rfl) (by kernel_rfl) (by kernel_rfl) (by kernel_rfl) ?_
            refine runC_old (b := ba) (j := off + k * 3 + 0) (v := .int .i64 x.n) load_int (show opAt (opsOf Tryz.f16 7) 10 = some (some 43, .load 3 (.tmp 42), none) from by kernel_rfl) (by kernel_rfl) (by kernel_rfl) (by kernel_rfl) hba CX.out ?_
            refine run_sub (k := .i64) (p := x.n) (q := 1) (z := (m : Int)) (show opAt (opsOf Tryz.f16 7) 11 = some (some 44, .binOp .sub 3 (.tmp 43) (.const (.int .i64 1)) 3, none) from by kernel_rfl) (by kernel_rfl) (by kernel_rfl) (by kernel_rfl) (by kernel_rfl) WS.out ?_
            refine run_idx1 (n := nl) (c := cl) (b := bl) (off := ol) (k := m) (show opAt (opsOf Tryz.f16 7) 12 = some (some 45, .indexAddr 24 (.tmp 37) (.tmp 44), none) from by kernel_rfl) (by kernel_rfl) (by kernel_rfl) (by kernel_rfl) (by kernel_rfl) hm Tryz.underlying24 (by kernel_rfl) infoStr ?_
            refine runC_old (b := bl) (j := ol + m) (v := .string s) load_text (show opAt (opsOf Tryz.f16 7) 13 = some (some 46, .load 9 (.tmp 45), none) from by kernel_rfl) (by kernel_rfl) (by kernel_rfl) (by kernel_rfl) hbl CS.out ?_
            refine run_call (args := [.string s]) (show opAt (opsOf Tryz.f16 7) 14 = some (some 47, .call { callee := .value (.func 38), args := [(.tmp 46)].toArray, argTypes := [9].toArray }, none) from by kernel_rfl) (by kernel_rfl) (by kernel_rfl) (by kernel_rfl) (by kernel_rfl) ?_
            refine (CT.out _).mono ?_
            rintro en rw1 ⟨rfl, hb⟩
            refine ⟨_, rfl, heldC_call H.out hb, ?_⟩
            have H := Lib.hid (heldC_call H.out hb)
            have PU1 := Lib.hid (PU1.out.keep hb)
            have KG := Lib.hid (blk_below hb KG.out)
            clear hb
            refine run_idx3 (n := n) (c := c) (b := g) (off := 0) (k := k) (show opAt (opsOf Tryz.f16 7) 15 = some (some 48, .indexAddr 28 (.tmp 34) (.tmp 35), none) from by kernel_rfl) (by kernel_rfl) (by kernel_rfl) (by kernel_rfl) (by kernel_rfl) hlt ?_
            have PN := Lib.hid (PU1.out.put (k := k) (z := txE s) (o := 0 + k * 3) KG.out (by rw [mixP_len, HN.out]; exact hlt) (Nat.zero_add _))
            refine run_last (by kernel_rfl) (show opAt (opsOf Tryz.f16 7) 16 = some (none, .store 45 (.tmp 48) (.tmp 47), none) from by kernel_rfl) (by kernel_rfl) (by kernel_rfl) (by kernel_rfl) (store_itemAt (x := .int .i64 0) (y := .int .i64 1) (z := .string s) KG.out PN.out.1 rfl rfl rfl) ?_
            obtain ⟨wn, hwn⟩ : ∃ W, rw1.setRow g (cur.toList.take (0 + k * 3) ++ [Value.int .i64 0, .int .i64 1, .string s] ++ cur.toList.drop (0 + k * 3 + 3)).toArray = W := ⟨_, rfl⟩
            rw [hwn]
            have PM := Lib.hid (show PlnU W0 wn gu 3 (.slice (some ⟨g, 0, none⟩) n c) (mixP levels items (k + 1)) from by have q : PlnU W0 wn gu 3 (.slice (some ⟨g, 0, none⟩) n c) ((mixP levels items k).set k (txE s)) := (by rw [← hwn]; exact PN.out.2); rw [EX.out, EXK.out] at q; exact q)
            refine run_done ?_
            simp only [putAll, Act.put, List.setIfInBounds_toArray, List.set_cons_zero, List.set_cons_succ]
            clear hwn PN PU1 KG H
            go_wp2
            go_roundw
            case rel => first | exact ⟨k + 1, 3, by omega, by go_num, PM.out⟩ | ((repeat apply Exists.intro); exact ⟨⟨k + 1, 3, by omega, by go_num, PM.out⟩, rfl⟩)
            case measure => simp [intOf]; omega
        · obtain rfl : k = n := by omega
          have PU1 := Lib.hid (PU.out.set0 (k' := 3))
          have hlA := (Array.getElem?_eq_some_iff.1 KA.out).1
          have hgr : ¬ w.heap.size + 1 = gu := by have := PU.out.ge; have := SW0.out; omega
          have KR1 := Lib.hid (show (wr.setCell ⟨gu, 0, none⟩ (.int .i64 3)).heap[w.heap.size + 1]? = _ from (Below.heap_setCell _ _ _ _ hgr).trans KR.out)
          obtain ⟨z0, z1, z2, z3, z4, z5, z6, z7⟩ := vec8 KR.out
          obtain ⟨f0, f1, f2, f3, f4, f5, f6, f7⟩ := free8 KR.out
          go_wp2
          rw [ER.out]
          exact vec_end rfl rfl rfl KR1.out (PU1.out.fin (by have := SW0.out; omega) BW0.out)
end Go.Proofs.YtikgcogiiohahaaGreatDoor

/- MakeFactorWith as data; a vector of items, names, one class and levels that a call makes. -/
namespace Go.Proofs.YtikgcogiiohahaaGreatDoor
open Go.RowKit
set_option maxRecDepth 100000
set_option linter.unusedVariables false

/-- The problem of a list of levels. -/
noncomputable def lvS (lv : List ByteArray) : ByteArray := match bB (lv.length = 0), bB (LabelsOk (txtS lv) lv.length 20) with
  | true, _ => nolB
  | false, true => ⟨#[]⟩
  | false, false => levB
/-- What MakeFactorWith says and answers. -/
noncomputable def mfS (v : Vec) (lv : List ByteArray) : ByteArray := match bB (atmS v = ⟨#[]⟩) with
  | true => lvS lv
  | false => atmS v
noncomputable def mfV (v : Vec) (lv : List ByteArray) : Vec := match bB (mfS v lv = ⟨#[]⟩), v with
  | true, .mk kk items _ names _ levels _ _ => facR lv (txsL kk items levels) names
  | false, _ => noV
section
variable {ops : Array Oper} {Q : Exit → Act → World → Prop} {S : World → Prop}
variable {r : List (Nat × Bool)} {a : Act} {e : List (Nat × Value)} {w : World} {i d : Nat} {g : Option (Nat × Bool)}
end
end Go.Proofs.YtikgcogiiohahaaGreatDoor

/- CountBytes of the reference. -/
namespace Go.Proofs.YtikgcogiiohahaaGreatDoor
open Go.RowKit
set_option maxRecDepth 100000
set_option linter.unusedVariables false

/-- An item's variable that a region has made and filled. -/
structure BoxI (wr wx : World) (g : Nat) (z : It) : Prop where
  blk : wx.heap[g]? = some (.cells #[.int .i64 z.n, .int .i64 z.d, .string z.t] 45 (0, 0))
  ge : wr.heap.size ≤ g
  below : Below wr.heap.size wr wx
end Go.Proofs.YtikgcogiiohahaaGreatDoor

/- The codes of a vector's elements: the reference. -/
namespace Go.Proofs.YtikgcogiiohahaaGreatDoor
open Go.RowKit
set_option maxRecDepth 100000
set_option linter.unusedVariables false

section
variable {ops : Array Oper} {Q : Exit → Act → World → Prop} {S : World → Prop}
variable {r : List (Nat × Bool)} {a : Act} {e : List (Nat × Value)} {w : World} {i d : Nat} {g : Option (Nat × Bool)}
end
/-- A vector whose items have been appended to, but not yet stored. -/
structure AppM (w w0 wr : World) (b : Nat) (kind : Int) (l : List It) (sa : Option Addr) (sn sc : Nat) (sa' : Option Addr) (sn' sc' : Nat) (na : Option Addr) (nn nc : Nat) : Prop where
  vec : wr.heap[b]? = some (.cells #[.int .i64 kind, .slice sa sn sc, .slice none 0 0, .slice na nn nc, .slice none 0 0, .slice none 0 0, .int .i64 0, .int .i64 0] 31 (0, 0))
  row : wr.ownsRow w0.heap.size 45 3 (.slice sa' sn' sc') l.length (itCells l)
  kept : ∀ g, g < w0.heap.size → g ≠ b → wr.heap[g]? = w0.heap[g]?
  size : w0.heap.size ≤ wr.heap.size
  below : Below w.heap.size w wr
  lt : b < w0.heap.size
  ge : w.heap.size ≤ b
theorem AppM.store {w w0 wr : World} {b : Nat} {kind : Int} {l : List It} {sa sa' : Option Addr} {sn sc sn' sc' : Nat} {na : Option Addr} {nn nc : Nat} (h : AppM w w0 wr b kind l sa sn sc sa' sn' sc' na nn nc) : AppK w w0 (wr.setCell ⟨b, 1, none⟩ (.slice sa' sn' sc')) b kind l sa' sn' sc' na nn nc := by
  have hk : ∀ g, g ≠ b → (wr.setCell ⟨b, 1, none⟩ (.slice sa' sn' sc')).heap[g]? = wr.heap[g]? := fun g hg => Below.heap_setCell _ _ _ _ hg
  refine ⟨?_, ownsRow_kept h.row (fun j hj => hk j (by have := (h.row.lt j hj).1; have := h.lt; omega)), fun g hg hn => (hk g hn).trans (h.kept g hg hn), by have := h.size; simp; exact this, h.below.setCell (show w.heap.size ≤ b from h.ge) _, h.lt, h.ge⟩
  exact blk_set (i := 1) h.vec _
theorem wpList_appK {w w0 wr : World} {b : Nat} {kind : Int} {l : List It} {sa : Option Addr} {sn sc : Nat} {na : Option Addr} {nn nc : Nat} {ops : Array Oper} {rest : List Oper} {o : Oper} {a : Act} {Q : Exit → Act → World → Prop} (hgd : o.guard = none) (s x : Operand)
    (ho : o.op = .call { callee := .builtin .append, args := #[s, x], argTypes := #[28, 28] }) (z : It) (h : AppK w w0 wr b kind l sa sn sc na nn nc) (g : Nat) (hs : a.eval s = .slice sa sn sc) (hx : a.eval x = .slice (some ⟨g, 0, none⟩) 1 1)
    {W : World} (hW : W = wr.alloc (.cells #[.int .i64 z.n, .int .i64 z.d, .string z.t] 45)) (hg : g = wr.heap.size) (hn : l.length ≤ 1048576)
    (hK : ∀ sa' sn' sc' w', AppM w w0 w' b kind (l ++ [z]) sa sn sc sa' sn' sc' na nn nc → wpList Tryz.prog ops Q rest (a.put o.dst (.slice sa' sn' sc')) w') : wpList Tryz.prog ops Q (o :: rest) a W := by
  obtain ⟨i0, hi0, hz0, hz1, hz2⟩ := info_parts infoItm3
  have h' := h.keep (hW ▸ below1 wr _ : Below wr.heap.size wr W)
  have hb : W.heap[g]? = some (.cells #[.int .i64 z.n, .int .i64 z.d, .string z.t] 45 (0, 0)) := by rw [hW]; exact blk_new _ _ hg
  refine wpList_append_own W hgd s x 28 ho w0.heap.size 45 i0 _ 3 32 Tryz.underlying28 hi0 hz0 hz1 hz2 rfl (by decide) _ l.length (itCells l) hs h'.row ⟨g, 0, none⟩ 1 1 (itCells [z]) hx rfl (fun j u hj => ?_) (itCells_one _) (by unfold maxLen; omega) (by omega) h'.size (fun v' w' h1 h2 _ => ?_)
  · have hlt : j < 3 := by have := (List.getElem?_eq_some_iff.1 hj).1; simpa [itCells] using this
    rw [addr_add, Nat.zero_add]
    exact cellOf hb (by simpa [itCells] using hj)
  · have h1' : w'.ownsRow w0.heap.size 45 3 v' (l ++ [z]).length (itCells (l ++ [z])) := by rw [itCells_app, List.length_append]; exact h1
    obtain ⟨sa', sn', e⟩ : ∃ sa' sn' , ∃ sc', v' = .slice sa' sn' sc' := by
      obtain ⟨a', c', _, e, _⟩ := own_of_its h1'
      exact ⟨a', _, c', e⟩
    obtain ⟨sc', rfl⟩ := e
    have far : ∀ k, (Value.slice sa sn sc).ownBlock = some k → w0.heap.size ≤ k := fun k hk => (h'.row.lt k hk).1
    refine hK sa' sn' sc' w' ⟨(h2.block b (Nat.lt_of_lt_of_le h'.lt h'.size) (fun e => by have := far b e.symm; have := h'.lt; omega)).trans h'.vec, h1', fun k hk hne => (h2.block k (Nat.lt_of_lt_of_le hk h'.size) (fun e => by have := far k e.symm; omega)).trans (h'.kept k hk hne), Nat.le_trans h'.size h2.size, h'.below.grown h2 h'.below.size (fun r hr => by have := far r hr; have := h'.lt; have := h'.ge; omega), h'.lt, h'.ge⟩
end Go.Proofs.YtikgcogiiohahaaGreatDoor

/- MatchIn of the reference. -/
namespace Go.Proofs.YtikgcogiiohahaaGreatDoor
open Go.RowKit
set_option maxRecDepth 100000
set_option linter.unusedVariables false

theorem cells3_get {cur : Array Value} {o : Nat} {x y z : Value} (h : o + 3 ≤ cur.size) (j : Nat) :
    (cur.toList.take o ++ [x, y, z] ++ cur.toList.drop (o + 3)).toArray[j]? = if j < o then cur[j]? else if j = o then some x else if j = o + 1 then some y else if j = o + 2 then some z else cur[j]? := by
  have hl : (cur.toList.take o).length = o := by simp; omega
  rw [List.getElem?_toArray, List.append_assoc]
  by_cases h1 : j < o
  · rw [if_pos h1, List.getElem?_append_left (by rw [hl]; exact h1), List.getElem?_take_of_lt h1, Array.getElem?_toList]
  · rw [if_neg h1, List.getElem?_append_right (by rw [hl]; omega), hl]
    by_cases h2 : j = o
    · subst h2; rw [if_pos rfl, Nat.sub_self]; rfl
    · rw [if_neg h2]
      by_cases h3 : j = o + 1
      · subst h3; rw [if_pos rfl, show o + 1 - o = 1 by omega]; rfl
      · rw [if_neg h3]
        by_cases h4 : j = o + 2
        · subst h4; rw [if_pos rfl, show o + 2 - o = 2 by omega]; rfl
        · rw [if_neg h4, List.getElem?_append_right (by simp; omega), List.getElem?_drop, Array.getElem?_toList]
          congr 1
          simp; omega
/-- Items of one's own: one is set. -/
theorem OwnIts.open_ {w : World} {a : Option Addr} {l : List It} {F : List Nat} (h : OwnIts w a l F) (hp : 0 < l.length) : ∃ b C, F = [b] ∧ a = some ⟨b, 0, none⟩ ∧ w.heap[b]? = some (.cells C 45 (0, 0)) ∧ l.length * 3 ≤ C.size ∧
    ∀ i, i < l.length → C[i * 3]? = some (.int .i64 (l.getD i noI).n) ∧ C[i * 3 + 1]? = some (.int .i64 (l.getD i noI).d) ∧ C[i * 3 + 2]? = some (.string (txtI l i)) := by
  rcases h with ⟨rfl, _⟩ | h
  · cases hp
  · exact h
theorem OwnIts.set_ {w : World} {b k : Nat} {l : List It} {C : Array Value} {z : It} (hb : w.heap[b]? = some (.cells C 45 (0, 0))) (hs : l.length * 3 ≤ C.size)
    (hc : ∀ i, i < l.length → C[i * 3]? = some (.int .i64 (l.getD i noI).n) ∧ C[i * 3 + 1]? = some (.int .i64 (l.getD i noI).d) ∧ C[i * 3 + 2]? = some (.string (txtI l i))) (hk : k < l.length) :
    OwnIts (w.setRow b (C.toList.take (0 + k * 3) ++ [Value.int .i64 z.n, .int .i64 z.d, .string z.t] ++ C.toList.drop (0 + k * 3 + 3)).toArray) (some ⟨b, 0, none⟩) (l.set k z) [b] := by
  rw [Nat.zero_add]
  have h3 : k * 3 + 3 ≤ C.size := by omega
  refine .inr ⟨b, _, rfl, rfl, setRow_heap _ _ _ _ _ _ hb, ?_, fun i hi => ?_⟩
  · rw [List.length_set]; simp; omega
  · rw [List.length_set] at hi
    rw [cells3_get h3, cells3_get h3, cells3_get h3]
    obtain ⟨c0, c1, c2⟩ := hc i hi
    by_cases e : i = k
    · subst e
      have e1 : (l.set i z).getD i noI = z := by simp [List.getD_eq_getElem?_getD, hi]
      rw [if_neg (by omega), if_pos rfl, if_neg (by omega), if_neg (by omega), if_pos rfl, if_neg (by omega), if_neg (by omega), if_neg (by omega), if_pos rfl]
      unfold txtI
      rw [e1]
      exact ⟨rfl, rfl, rfl⟩
    · have e1 : (l.set k z).getD i noI = l.getD i noI := by simp [List.getD_eq_getElem?_getD, Ne.symm e]
      unfold txtI at c2 ⊢
      rw [e1, ← c0, ← c1, ← c2]
      refine ⟨?_, ?_, ?_⟩ <;> (repeat' split) <;> first | rfl | omega
/-- The first k items turned by f. -/
def mixF (f : It → It) (l : List It) (k : Nat) : List It := itF (fun i => if i < k then f (l.getD i noI) else l.getD i noI) l.length
theorem mixF_len (f : It → It) (l : List It) (k : Nat) : (mixF f l k).length = l.length := itF_len _ _
theorem mixF_zero (f : It → It) (l : List It) : mixF f l 0 = l := by
  apply List.ext_getElem
  · exact mixF_len _ _ _
  · intro i h1 h2
    simp [mixF, itF, List.getD_eq_getElem?_getD, h2]
theorem mixF_full (k j : Int) (l : List It) : mixF (cnvI k j) l l.length = cnvL k j l := by
  unfold mixF cnvL itF
  exact List.map_congr_left (fun i hi => if_pos (List.mem_range.1 hi))
theorem mixF_at {f : It → It} {l : List It} {k : Nat} (h : k < l.length) : (mixF f l k).getD k noI = l.getD k noI := by
  unfold mixF
  rw [itF_getD _ h, if_neg (Nat.lt_irrefl k)]
theorem mixF_set {f : It → It} {l : List It} {k : Nat} (h : k < l.length) : (mixF f l k).set k (f (l.getD k noI)) = mixF f l (k + 1) := by
  apply List.ext_getElem
  · rw [List.length_set, mixF_len, mixF_len]
  · intro i h1 h2
    rw [List.getElem_set]
    simp only [mixF, itF, List.getElem_map, List.getElem_range]
    by_cases e : k = i
    · subst e; simp
    · rw [if_neg e]
      by_cases h3 : i < k
      · rw [if_pos h3, if_pos (by omega)]
      · rw [if_neg h3, if_neg (by omega)]
set_option maxHeartbeats 16000000 in
theorem specMatch (d0 d1 : Nat) (v t : Vec) (vv vt : Value) (lo hi : Nat) (w : World) (h0 : VecAt lo hi w d0 v vv) (h1 : VecAt lo hi w d1 t vt) (hhi : hi ≤ w.heap.size) (hsm0 : Small d0 v) (hsm1 : Small d1 t) :
    Calls Tryz.prog 5 #[vv, vt] w (ResVS 1 (matV v t) (matS v t) w) := by
  have C0 := Lib.hid (fun (w1 : World) (hb : Below w.heap.size w w1) => specAtm d0 v vv lo hi w1 (h0.below hb hhi) (Nat.le_trans hhi hb.size) hsm0)
  have C1 := Lib.hid (fun (w1 : World) (hb : Below w.heap.size w w1) => specAtm d1 t vt lo hi w1 (h1.below hb hhi) (Nat.le_trans hhi hb.size) hsm1)
  have D0 := Lib.hid (fun (ok : AtmOk (kindV v) (itemsV v) (levV v)) (W : World) (hb : Below w.heap.size w W) => (by
    obtain ⟨kk, items, parts, names, cls, levels, code, env⟩ := v
    exact specPlain d0 kk items parts names cls levels code env vv lo hi W (h0.below hb hhi) (Nat.le_trans hhi hb.size) ok : Calls Tryz.prog 16 #[vv] W (ResV 1 (vecOf (plnK (kindV v) (levV v)) (plnL (levV v) (itemsV v))) W)))
  have D1 := Lib.hid (fun (ok : AtmOk (kindV t) (itemsV t) (levV t)) (W : World) (hb : Below w.heap.size w W) => (by
    obtain ⟨kk, items, parts, names, cls, levels, code, env⟩ := t
    exact specPlain d1 kk items parts names cls levels code env vt lo hi W (h1.below hb hhi) (Nat.le_trans hhi hb.size) ok : Calls Tryz.prog 16 #[vt] W (ResV 1 (vecOf (plnK (kindV t) (levV t)) (plnL (levV t) (itemsV t))) W)))
  obtain ⟨VV, hVV⟩ : ∃ V, v = V := ⟨_, rfl⟩
  obtain ⟨TT, hTT⟩ : ∃ V, t = V := ⟨_, rfl⟩
  obtain ⟨k0, items0, parts0, names0, cls0, lev0, code0, env0⟩ := v
  obtain ⟨d0', ai0, ci0, ap0, cp0, an0, cn0, ac0, cc0, al0, cl0, ed0, rfl, hI0, hN0, hC0, hL0, hP0⟩ := vecAt_open h0
  obtain ⟨k1, items1, parts1, names1, cls1, lev1, code1, env1⟩ := t
  obtain ⟨d1', ai1, ci1, ap1, cp1, an1, cn1, ac1, cc1, al1, cl1, ed1, rfl, hI1, hN1, hC1, hL1, hP1⟩ := vecAt_open h1
  rw [hVV] at C0 D0 ⊢
  rw [hTT] at C1 D1 ⊢
  have S0 := Lib.hid (fun (h : ¬ atmS VV = ⟨#[]⟩) => matS_no (t := TT) h)
  have S1 := Lib.hid (fun (h : atmS VV = ⟨#[]⟩) => matS_t (t := TT) h)
  have XY := Lib.hid (fun (h : matS VV TT = ⟨#[]⟩) => mat_yes h)
  have XN := Lib.hid (fun (h : ¬ matS VV TT = ⟨#[]⟩) => mat_no h)
  have OK0 := Lib.hid (fun (h : atmS VV = ⟨#[]⟩) => atm_vec h)
  have OK1 := Lib.hid (fun (h : atmS TT = ⟨#[]⟩) => atm_vec h)
  obtain ⟨P, hP⟩ : ∃ s, atmS VV = s := ⟨_, rfl⟩
  obtain ⟨Q, hQ⟩ : ∃ s, atmS TT = s := ⟨_, rfl⟩
  obtain ⟨RV, hRV⟩ : ∃ y, matV VV TT = y := ⟨_, rfl⟩
  obtain ⟨R, hR⟩ : ∃ y, matS VV TT = y := ⟨_, rfl⟩
  rw [hRV, hR] at XY XN ⊢
  rw [hR] at S0 S1
  rw [hP] at C0 S0 S1 OK0
  rw [hQ] at C1 S1 OK1
  have CE := Lib.hid (fun (W : World) => specEither P Q W)
  have NL := Lib.hid (fun W n => specNum2 n W)
  clear h0 h1 hsm0 hsm1 hI0 hN0 hC0 hL0 hP0 hI1 hN1 hC1 hL1 hP1 ed0 ed1 hVV hTT hhi hRV hR hP hQ
  go_enter Tryz.func5, Tryz.ntmps5
  go_wp2_with fail
  have hs1 : (w.alloc (.cells #[.int .i64 k0, .slice ai0 items0.length ci0, .slice ap0 parts0.length cp0, .slice an0 names0.length cn0, .slice ac0 cls0.length cc0, .slice al0 lev0.length cl0, .int .i64 code0, .int .i64 env0] 31)).heap.size = w.heap.size + 1 := by simp
  have hs2 : ((w.alloc (.cells #[.int .i64 k0, .slice ai0 items0.length ci0, .slice ap0 parts0.length cp0, .slice an0 names0.length cn0, .slice ac0 cls0.length cc0, .slice al0 lev0.length cl0, .int .i64 code0, .int .i64 env0] 31)).alloc (.cells #[.int .i64 k1, .slice ai1 items1.length ci1, .slice ap1 parts1.length cp1, .slice an1 names1.length cn1, .slice ac1 cls1.length cc1, .slice al1 lev1.length cl1, .int .i64 code1, .int .i64 env1] 31)).heap.size = w.heap.size + 1 + 1 := by simp
  obtain ⟨w1, hw1⟩ : ∃ W, ((w.alloc (.cells #[.int .i64 k0, .slice ai0 items0.length ci0, .slice ap0 parts0.length cp0, .slice an0 names0.length cn0, .slice ac0 cls0.length cc0, .slice al0 lev0.length cl0, .int .i64 code0, .int .i64 env0] 31)).alloc (.cells #[.int .i64 k1, .slice ai1 items1.length ci1, .slice ap1 parts1.length cp1, .slice an1 names1.length cn1, .slice ac1 cls1.length cc1, .slice al1 lev1.length cl1, .int .i64 code1, .int .i64 env1] 31)).alloc (.cells #[.int .i64 0, .slice none 0 0, .slice none 0 0, .slice none 0 0, .slice none 0 0, .slice none 0 0, .int .i64 0, .int .i64 0] 31) = W := ⟨_, rfl⟩
  have B := Lib.hid (show Below w.heap.size w w1 from hw1 ▸ ((below1 w _).alloc (by simp) _).alloc (by simp; omega) _)
  have K0 := Lib.hid (show w1.heap[w.heap.size]? = some (.cells #[.int .i64 k0, .slice ai0 items0.length ci0, .slice ap0 parts0.length cp0, .slice an0 names0.length cn0, .slice ac0 cls0.length cc0, .slice al0 lev0.length cl0, .int .i64 code0, .int .i64 env0] 31 (0, 0)) from hw1 ▸ blk_old (blk_old (blk_new w _ rfl)))
  have K1 := Lib.hid (show w1.heap[w.heap.size + 1]? = some (.cells #[.int .i64 k1, .slice ai1 items1.length ci1, .slice ap1 parts1.length cp1, .slice an1 names1.length cn1, .slice ac1 cls1.length cc1, .slice al1 lev1.length cl1, .int .i64 code1, .int .i64 env1] 31 (0, 0)) from by rw [← hw1]; exact blk_old (blk_new _ _ hs1.symm))
  have KR := Lib.hid (show w1.heap[w.heap.size + 1 + 1]? = some (.cells #[.int .i64 0, .slice none 0 0, .slice none 0 0, .slice none 0 0, .slice none 0 0, .slice none 0 0, .int .i64 0, .int .i64 0] 31 (0, 0)) from by rw [← hw1]; exact blk_new _ _ hs2.symm)
  rw [hw1]
  clear hw1 hs1 hs2
  with_reducible refine (C0.out _ B.out).mono ?_
  rintro e w2 ⟨rfl, b⟩
  have B := Lib.hid (below_then B.out b)
  have K0 := Lib.hid (blk_below b K0.out)
  have K1 := Lib.hid (blk_below b K1.out)
  have KR := Lib.hid (blk_below b KR.out)
  clear b
  obtain ⟨b0, b1, b2, b3, b4, b5, b6, b7⟩ := vec8 K1.out
  go_wp2_with fail
  with_reducible refine (C1.out _ B.out).mono ?_
  rintro e w3 ⟨rfl, b⟩
  have B := Lib.hid (below_then B.out b)
  have K0 := Lib.hid (blk_below b K0.out)
  have K1 := Lib.hid (blk_below b K1.out)
  have KR := Lib.hid (blk_below b KR.out)
  clear b
  clear b0 b1 b2 b3 b4 b5 b6 b7 C0 C1
  by_cases hp : P = ⟨#[]⟩
  · by_cases hq : Q = ⟨#[]⟩
    · have ER := S1.out hp
      rw [hq] at ER
      have XV := Lib.hid (XY.out ER)
      have XS := Lib.hid ER
      have ok0 := OK0.out hp
      have ok1 := OK1.out hq
      have D0 := Lib.hid (D0.out ok0)
      have D1 := Lib.hid (D1.out ok1)
      have pk0 := ok0.pk
      have pk1 := ok1.pk
      have l1 := ok0.len
      have l2 := ok1.len
      have PI0 := Lib.hid (fun (i : Nat) (hi : i < (itemsV VV).length) => ok0.pln hi)
      have PI1 := Lib.hid (fun (i : Nat) (hi : i < (itemsV TT).length) => ok1.pln hi)
      have e1 := plnL_len (levV VV) (itemsV VV)
      have e2 := plnL_len (levV TT) (itemsV TT)
      have XV := Lib.hid (show RV = vecOf 2 (itF (matI (cnvL (plnK (kindV TT) (levV TT)) (maxI (plnK (kindV VV) (levV VV)) (plnK (kindV TT) (levV TT))) (plnL (levV TT) (itemsV TT))) (cnvL (plnK (kindV VV) (levV VV)) (maxI (plnK (kindV VV) (levV VV)) (plnK (kindV TT) (levV TT))) (plnL (levV VV) (itemsV VV)))) (itemsV VV).length) from XV.out)
      obtain ⟨Ka, hK0⟩ : ∃ k, plnK (kindV VV) (levV VV) = k := ⟨_, rfl⟩
      obtain ⟨Kb, hK1⟩ : ∃ k, plnK (kindV TT) (levV TT) = k := ⟨_, rfl⟩
      obtain ⟨X0, hX0⟩ : ∃ l, plnL (levV VV) (itemsV VV) = l := ⟨_, rfl⟩
      obtain ⟨Y0, hY0⟩ : ∃ l, plnL (levV TT) (itemsV TT) = l := ⟨_, rfl⟩
      rw [hK0] at D0 pk0 PI0 XV
      rw [hK1] at D1 pk1 PI1 XV
      rw [hX0] at D0 PI0 XV e1
      rw [hY0] at D1 PI1 XV e2
      obtain ⟨m, hm⟩ : ∃ m, (itemsV VV).length = m := ⟨_, rfl⟩
      obtain ⟨n, hn⟩ : ∃ n, (itemsV TT).length = n := ⟨_, rfl⟩
      rw [hm] at PI0 XV e1 l1
      rw [hn] at PI1 e2 l2
      have hM0 := maxI_l Ka Kb
      have hM1 := maxI_r Ka Kb
      have hM3 : maxI Ka Kb ≤ 3 := maxI_le pk0.2.1 pk1.2.1
      have HM := Lib.hid (show max Ka Kb = maxI Ka Kb by unfold maxI; split <;> omega)
      obtain ⟨M, hM⟩ : ∃ k, maxI Ka Kb = k := ⟨_, rfl⟩
      rw [hM] at XV hM0 hM1 hM3 HM
      obtain ⟨LX, hLX⟩ : ∃ l, cnvL Ka M X0 = l := ⟨_, rfl⟩
      obtain ⟨LY, hLY⟩ : ∃ l, cnvL Kb M Y0 = l := ⟨_, rfl⟩
      rw [hLX, hLY] at XV
      obtain ⟨FZ, hFZ⟩ : ∃ f, matI LY LX = f := ⟨_, rfl⟩
      rw [hFZ] at XV
      have EZ := Lib.hid (fun k => congrFun hFZ k)
      have ELX := Lib.hid (fun (k : Nat) (h : k < m) => (by rw [← hLX]; exact cnvL_at (by rw [e1]; exact h) : LX.getD k noI = cnvI Ka M (X0.getD k noI)))
      have ELY := Lib.hid (show mixF (cnvI Kb M) Y0 n = LY by rw [← hLY, ← e2]; exact mixF_full _ _ _)
      have LLY := Lib.hid (show LY.length = n by rw [← hLY, cnvL_len]; exact e2)
      have CV0 := Lib.hid (fun (k : Nat) (hk : k < m) (W : World) => specCnv Ka M (X0.getD k noI) W (PI0.out k hk) pk0.1 hM0 hM3)
      have CV1 := Lib.hid (fun (k : Nat) (hk : k < n) (W : World) => specCnv Kb M (Y0.getD k noI) W (PI1.out k hk) pk1.1 hM1 hM3)
      have E1 := Lib.hid e1
      have E2 := Lib.hid e2
      obtain rfl := hp
      obtain rfl := hq
      clear ER ok0 ok1 pk0 pk1 PI0 PI1 hK0 hK1 hX0 hY0 hm hn hM hLX hLY hFZ hM0 hM1 hM3 XY XN OK0 OK1 S0 S1 CE e1 e2
      obtain ⟨a0, a1, a2, a3, a4, a5, a6, a7⟩ := vec8 K0.out
      go_wp2_with fail
      with_reducible refine (D0.out _ B.out).mono ?_
      rintro e w4 ⟨yv, rfl, ho, b⟩
      obtain ⟨xi, xci, xp, xcp, xn, xcn, xc, xcc, xl, xcl, FX, rfl, hx⟩ := its_of_own ho (Nat.le_refl _)
      have hs4 := b.size
      have B := Lib.hid (below_then B.out b)
      have K0 := Lib.hid (blk_below b K0.out)
      have K1 := Lib.hid (blk_below b K1.out)
      have KR := Lib.hid (blk_below b KR.out)
      clear b
      have HXI := Lib.hid (hx.own.at_ hx.rg)
      clear hx ho a0 a1 a2 a3 a4 a5 a6 a7
      rw [E1.out]
      obtain ⟨w5, hw5⟩ : ∃ W, w4.alloc (.cells #[.int .i64 Ka, .slice xi m xci, .slice xp 0 xcp, .slice xn 0 xcn, .slice xc 0 xcc, .slice xl 0 xcl, .int .i64 0, .int .i64 0] 31) = W := ⟨_, rfl⟩
      have b : Below w4.heap.size w4 w5 := hw5 ▸ below1 w4 _
      have KX := Lib.hid (show w5.heap[w4.heap.size]? = some (.cells #[.int .i64 Ka, .slice xi m xci, .slice xp 0 xcp, .slice xn 0 xcn, .slice xc 0 xcc, .slice xl 0 xcl, .int .i64 0, .int .i64 0] 31 (0, 0)) from hw5 ▸ blk_new w4 _ rfl)
      have HXI := Lib.hid (HXI.out.below b (Nat.le_refl _))
      have S5 := Lib.hid (show w5.heap.size = w4.heap.size + 1 from hw5 ▸ (by simp))
      have EW5 := Lib.hid hw5
      clear hw5
      have hlr4 := (Array.getElem?_eq_some_iff.1 KR.out).1
      have hl14 : w.heap.size + 1 < w4.heap.size := by omega
      obtain ⟨b0, b1, b2, b3, b4, b5, b6, b7⟩ := vec8 K1.out
      go_wp2_with fail
      rw [EW5.out]
      have B := Lib.hid (below_then B.out b)
      have K0 := Lib.hid (blk_below b K0.out)
      have K1 := Lib.hid (blk_below b K1.out)
      have KR := Lib.hid (blk_below b KR.out)
      clear b
      have KX5 := KX
      have KR5 := KR
      have B5 := B
      have HX5 := HXI
      clear EW5 b0 b1 b2 b3 b4 b5 b6 b7
      with_reducible refine (D1.out _ B.out).mono ?_
      rintro e w6 ⟨yv, rfl, ho, b⟩
      obtain ⟨ti, tci, tp, tcp, tn, tcn, tc, tcc, tl, tcl, FY, rfl, ht⟩ := its_of_own ho (Nat.le_refl _)
      have hs6 := b.size
      have B6 := Lib.hid b
      have KX := Lib.hid (blk_below b KX.out)
      have KX6 := KX
      have B := Lib.hid (below_then B.out b)
      have K0 := Lib.hid (blk_below b K0.out)
      have K1 := Lib.hid (blk_below b K1.out)
      have KR := Lib.hid (blk_below b KR.out)
      clear b
      have HYI := Lib.hid ht.own
      have HYR := Lib.hid ht.rg
      clear ht ho
      rw [E2.out]
      obtain ⟨w7, hw7⟩ : ∃ W, w6.alloc (.cells #[.int .i64 Kb, .slice ti n tci, .slice tp 0 tcp, .slice tn 0 tcn, .slice tc 0 tcc, .slice tl 0 tcl, .int .i64 0, .int .i64 0] 31) = W := ⟨_, rfl⟩
      have b : Below w6.heap.size w6 w7 := hw7 ▸ below1 w6 _
      have KY := Lib.hid (show w7.heap[w6.heap.size]? = some (.cells #[.int .i64 Kb, .slice ti n tci, .slice tp 0 tcp, .slice tn 0 tcn, .slice tc 0 tcc, .slice tl 0 tcl, .int .i64 0, .int .i64 0] 31 (0, 0)) from hw7 ▸ blk_new w6 _ rfl)
      have HYI := Lib.hid (HYI.out.kept (fun g hg => b.block g (HYR.out g hg).2))
      have BI := Lib.hid (show Below w5.heap.size w5 w7 from below_then B6.out b)
      have EW7 := Lib.hid hw7
      have S7 := b.size
      have S7' : w7.heap.size = w6.heap.size + 1 := hw7 ▸ (by simp)
      have KX := Lib.hid (blk_below b KX.out)
      have B := Lib.hid (below_then B.out b)
      have K0 := Lib.hid (blk_below b K0.out)
      have K1 := Lib.hid (blk_below b K1.out)
      have KR := Lib.hid (blk_below b KR.out)
      clear b
      clear hw7
      obtain ⟨x0, x1, x2, x3, x4, x5, x6, x7⟩ := vec8 KX6.out
      have hx6 : w4.heap.size < w6.heap.size := (Array.getElem?_eq_some_iff.1 KX6.out).1
      go_upto_region 8 with (fail)
      rw [EW7.out]
      clear x0 x1 x2 x3 x4 x5 x6 x7 KX6 EW7
      obtain ⟨gx, hgx⟩ : ∃ g, w4.heap.size = g := ⟨_, rfl⟩
      obtain ⟨gy, hgy⟩ : ∃ g, w6.heap.size = g := ⟨_, rfl⟩
      have S5' := S5.out
      rw [hgx] at KX KX5 S5' hl14 hlr4 HX5 hx6 ⊢
      rw [hgy] at KY S7 S7' hs6 hx6 ⊢
      have HYR' := Lib.hid (fun g hg => (by have := HYR.out g hg; omega : w5.heap.size ≤ g ∧ g < gy))
      clear HYR B6 S5
      rw [HM.out]
      obtain ⟨y0, y1, y2, y3, y4, y5, y6, y7⟩ := vec8 KY.out
      go_wp2
      clear y0 y1 y2 y3 y4 y5 y6 y7
      go_loopw [11] (fun i wr => ∃ (k : Nat) (L : List It), k ≤ n ∧ i = .int .i64 k ∧ L = mixF (cnvI Kb M) Y0 k ∧ OwnIts wr ti L FY ∧ wr.heap[gy]? = some (.cells #[.int .i64 Kb, .slice ti n tci, .slice tp 0 tcp, .slice tn 0 tcn, .slice tc 0 tcc, .slice tl 0 tcl, .int .i64 0, .int .i64 0] 31 (0, 0)) ∧ Below w5.heap.size w5 wr) (fun i _ => n - (intOf i).toNat)
      case atStart => exact ⟨0, Y0, Nat.zero_le _, rfl, (mixF_zero _ _).symm, HYI.out, KY.out, BI.out⟩
      case round =>
        obtain ⟨k, L, hk, rfl, hL, hoi, hky, hbi⟩ := hrel
        have HLE := Lib.hid hL
        have OI := Lib.hid hoi
        have KYr := Lib.hid hky
        have HLL := Lib.hid (show L.length = n by rw [hL, mixF_len]; exact E2.out)
        clear BI HYI KY
        have BI := Lib.hid hbi
        clear hL hoi hky hbi
        obtain ⟨y0, y1, y2, y3, y4, y5, y6, y7⟩ := vec8 KYr.out
        by_cases hlt : k < n
        · obtain ⟨g, C, rfl, rfl, hg, hs, hc⟩ := OwnIts.open_ OI.out (by rw [HLL.out]; omega)
          have KG := Lib.hid hg
          have HSZ := Lib.hid hs
          have HC := Lib.hid hc
          obtain ⟨hge, hgy'⟩ := HYR'.out g (List.mem_singleton.2 rfl)
          have hgw : g < wr.heap.size := (Array.getElem?_eq_some_iff.1 hg).1
          obtain ⟨c0, c1, c2⟩ := hc k (by rw [HLL.out]; exact hlt)
          have ek : L.getD k noI = Y0.getD k noI := by rw [HLE.out]; exact mixF_at (by rw [E2.out]; exact hlt)
          have c2' : C[k * 3 + 2]? = some (.string (L.getD k noI).t) := c2
          rw [ek] at c0 c1 c2'
          have NX := Lib.hid (show L.set k (cnvI Kb M (Y0.getD k noI)) = mixF (cnvI Kb M) Y0 (k + 1) by rw [HLE.out]; exact mixF_set (by rw [E2.out]; exact hlt))
          have CK := Lib.hid (CV1.out k hlt)
          obtain ⟨z, hz⟩ : ∃ z : It, cnvI Kb M (Y0.getD k noI) = z := ⟨_, rfl⟩
          rw [hz] at NX CK
          obtain ⟨x, hx⟩ : ∃ x : It, Y0.getD k noI = x := ⟨_, rfl⟩
          rw [hx] at c0 c1 c2' CK
          have C0 := Lib.hid (show wr.cell? ⟨g, 0 + k * 3, none⟩ = some (.int .i64 x.n) from cellOf hg (by rw [Nat.zero_add]; exact c0))
          have C1 := Lib.hid (show wr.cell? ⟨g, 0 + k * 3 + 1, none⟩ = some (.int .i64 x.d) from cellOf hg (by rw [Nat.zero_add]; exact c1))
          have C2 := Lib.hid (show wr.cell? ⟨g, 0 + k * 3 + 2, none⟩ = some (.string x.t) from cellOf hg (by rw [Nat.zero_add]; exact c2'))
          have HO3 : 0 + k * 3 + 3 ≤ C.size := by have := HLL.out; omega
          have KGY := Lib.hid (show wr.heap[gy]? = some (.cells #[.int .i64 Kb, .slice (some ⟨g, 0, none⟩) n tci, .slice tp 0 tcp, .slice tn 0 tcn, .slice tc 0 tcc, .slice tl 0 tcl, .int .i64 0, .int .i64 0] 31 (0, 0)) from KYr.out)
          clear hg hs hc c0 c1 c2 c2' ek hz hx
          go_wp2
          have H := Lib.hid (show HeldC wr wr ([(gy, 31, #[.int .i64 Kb, .slice (some ⟨g, 0, none⟩) n tci, .slice tp 0 tcp, .slice tn 0 tcn, .slice tc 0 tcc, .slice tl 0 tcl, .int .i64 0, .int .i64 0])]) from heldC_one (Below.refl _ _) KGY.out)
          clear y0 y1 y2 y3 y4 y5 y6 y7
          refine run_region (ops := (opsOf Tryz.f5 11)) (S := fun w' => HeldC wr w' ([(gy, 31, #[.int .i64 Kb, .slice (some ⟨g, 0, none⟩) n tci, .slice tp 0 tcp, .slice tn 0 tcn, .slice tc 0 tcc, .slice tl 0 tcl, .int .i64 0, .int .i64 0])])) [(0, true), (1, true), (2, true), (3, true), (4, true), (5, true), (6, true), (7, true), (8, true), (9, true), (10, true), (11, false), (12, true), (13, false)] (by kernel_rfl) (by kernel_rfl) (by kernel_rfl) (by kernel_rfl) (by kernel_rfl) (fun _ _ _ _ _ h => h) (heldC_drew H.out) ?_
          have H := Lib.hid (heldC_drew H.out)
          refine runC_partV (b := gy) (by kernel_rfl) (show opAt (opsOf Tryz.f5 11) 0 = some (some 45, .fieldAddr 31 (.tmp 9) 1, none) from by kernel_rfl) (by kernel_rfl) (by kernel_rfl) (by kernel_rfl) ?_
          refine runC_cell (b := gy) (j := 1) (v := .slice (some ⟨g, 0, none⟩) n tci) load_its (show opAt (opsOf Tryz.f5 11) 1 = some (some 46, .load 28 (.tmp 45), none) from by kernel_rfl) (by kernel_rfl) (by kernel_rfl) (by kernel_rfl) (List.Mem.head _) rfl ?_
          refine run_mov (v := .int .i64 (k : Int)) (show opAt (opsOf Tryz.f5 11) 2 = some (some 47, .move (.tmp 11), none) from by kernel_rfl) (by kernel_rfl) (by kernel_rfl) (by kernel_rfl) ?_
          refine runC_partV (b := gy) (by kernel_rfl) (show opAt (opsOf Tryz.f5 11) 3 = some (some 48, .fieldAddr 31 (.tmp 9) 0, none) from by kernel_rfl) (by kernel_rfl) (by kernel_rfl) (by kernel_rfl) ?_
          refine runC_cell (b := gy) (j := 0) (v := .int .i64 Kb) load_int (show opAt (opsOf Tryz.f5 11) 4 = some (some 49, .load 3 (.tmp 48), none) from by kernel_rfl) (by kernel_rfl) (by kernel_rfl) (by kernel_rfl) (List.Mem.head _) rfl ?_
          refine run_mov (v := .int .i64 M) (show opAt (opsOf Tryz.f5 11) 5 = some (some 50, .move (.tmp 10), none) from by kernel_rfl) (by kernel_rfl) (by kernel_rfl) (by kernel_rfl) ?_
          refine runC_partV (b := gy) (by kernel_rfl) (show opAt (opsOf Tryz.f5 11) 6 = some (some 51, .fieldAddr 31 (.tmp 9) 1, none) from by kernel_rfl) (by kernel_rfl) (by kernel_rfl) (by kernel_rfl) ?_
          refine runC_cell (b := gy) (j := 1) (v := .slice (some ⟨g, 0, none⟩) n tci) load_its (show opAt (opsOf Tryz.f5 11) 7 = some (some 52, .load 28 (.tmp 51), none) from by kernel_rfl) (by kernel_rfl) (by kernel_rfl) (by kernel_rfl) (List.Mem.head _) rfl ?_
          refine run_mov (v := .int .i64 (k : Int)) (show opAt (opsOf Tryz.f5 11) 8 = some (some 53, .move (.tmp 11), none) from by kernel_rfl) (by kernel_rfl) (by kernel_rfl) (by kernel_rfl) ?_
          refine run_idx3 (n := n) (c := tci) (b := g) (off := 0) (k := k) (show opAt (opsOf Tryz.f5 11) 9 = some (some 54, .indexAddr 28 (.tmp 52) (.tmp 53), none) from by kernel_rfl) (by kernel_rfl) (by kernel_rfl) (by kernel_rfl) (by kernel_rfl) hlt ?_
          refine runC_oldI (b := g) (j := 0 + k * 3) (z := x) (show opAt (opsOf Tryz.f5 11) 10 = some (some 55, .load 45 (.tmp 54), none) from by kernel_rfl) (by kernel_rfl) (by kernel_rfl) (by kernel_rfl) hgw C0.out C1.out C2.out ?_
          refine run_call (args := [.int .i64 Kb, .int .i64 M, .agg #[.int .i64 x.n, .int .i64 x.d, .string x.t]]) (show opAt (opsOf Tryz.f5 11) 11 = some (some 56, .call { callee := .value (.func 17), args := [(.tmp 49), (.tmp 50), (.tmp 55)].toArray, argTypes := [3, 3, 45].toArray }, none) from by kernel_rfl) (by kernel_rfl) (by kernel_rfl) (by kernel_rfl) (by kernel_rfl) ?_
          refine (CK.out _).mono ?_
          rintro en rw1 ⟨rfl, hb⟩
          refine ⟨_, rfl, heldC_call H.out hb, ?_⟩
          have H := Lib.hid (heldC_call H.out hb)
          clear hb
          refine run_idx3 (n := n) (c := tci) (b := g) (off := 0) (k := k) (show opAt (opsOf Tryz.f5 11) 12 = some (some 57, .indexAddr 28 (.tmp 46) (.tmp 47), none) from by kernel_rfl) (by kernel_rfl) (by kernel_rfl) (by kernel_rfl) (by kernel_rfl) hlt ?_
          have KG1 := Lib.hid (blk_below H.out.1 KG.out)
          refine run_last (by kernel_rfl) (show opAt (opsOf Tryz.f5 11) 13 = some (none, .store 45 (.tmp 57) (.tmp 56), none) from by kernel_rfl) (by kernel_rfl) (by kernel_rfl) (by kernel_rfl) (store_itemAt (x := .int .i64 z.n) (y := .int .i64 z.d) (z := .string z.t) KG1.out HO3 rfl rfl rfl) ?_
          obtain ⟨wn, hwn⟩ : ∃ W, rw1.setRow g (C.toList.take (0 + k * 3) ++ [Value.int .i64 z.n, .int .i64 z.d, .string z.t] ++ C.toList.drop (0 + k * 3 + 3)).toArray = W := ⟨_, rfl⟩
          have ON := Lib.hid (show OwnIts wn (some ⟨g, 0, none⟩) (L.set k z) [g] from hwn ▸ OwnIts.set_ KG1.out HSZ.out HC.out (by rw [HLL.out]; exact hlt))
          have BN := Lib.hid (show Below w5.heap.size w5 wn from hwn ▸ below_row (below_then BI.out H.out.1) hge _)
          have KYn := Lib.hid (show wn.heap[gy]? = some (.cells #[.int .i64 Kb, .slice (some ⟨g, 0, none⟩) n tci, .slice tp 0 tcp, .slice tn 0 tcn, .slice tc 0 tcc, .slice tl 0 tcl, .int .i64 0, .int .i64 0] 31 (0, 0)) from hwn ▸ row_old (heldC_at H.out (List.Mem.head _)) (by omega))
          rw [hwn]
          refine run_done ?_
          simp only [putAll, Act.put, List.setIfInBounds_toArray, List.set_cons_zero, List.set_cons_succ]
          clear hwn KG1 H
          go_wp2
          go_roundw
          case rel => first | exact ⟨k + 1, _, by omega, by go_num, NX.out, ON.out, KYn.out, BN.out⟩ | ((repeat apply Exists.intro); exact ⟨⟨k + 1, _, by omega, by go_num, NX.out, ON.out, KYn.out, BN.out⟩, rfl⟩)
          case measure => simp [intOf]; omega
        · have hkn : n = k := by omega
          subst hkn
          have OI := Lib.hid (show OwnIts wr ti LY FY from (HLE.out.trans ELY.out) ▸ OI.out)
          have KXr := Lib.hid (blk_below BI.out KX5.out)
          have KRr := Lib.hid (blk_below BI.out KR5.out)
          have Br := Lib.hid (below_then B5.out BI.out)
          have HXr := Lib.hid (HX5.out.below BI.out (by omega))
          have hyl := (Array.getElem?_eq_some_iff.1 KYr.out).1
          have HYr := Lib.hid (show ItemsAt w5.heap.size gy wr ti LY from OI.out.at_ HYR'.out)
          obtain ⟨w0, hw0⟩ : ∃ W, wr.alloc (.cells #[.int .i64 2, .slice none 0 0, .slice none 0 0, .slice none 0 0, .slice none 0 0, .slice none 0 0, .int .i64 0, .int .i64 0] 31) = W := ⟨_, rfl⟩
          have b0 : Below wr.heap.size wr w0 := hw0 ▸ below1 wr _
          have KB := Lib.hid (show w0.heap[wr.heap.size]? = some (.cells #[.int .i64 2, .slice none 0 0, .slice none 0 0, .slice none 0 0, .slice none 0 0, .slice none 0 0, .int .i64 0, .int .i64 0] 31 (0, 0)) from hw0 ▸ blk_new wr _ rfl)
          have B0 := Lib.hid (below_then Br.out b0)
          have KR0 := Lib.hid (blk_below b0 KRr.out)
          have KX0 := Lib.hid (blk_below b0 KXr.out)
          have KY0 := Lib.hid (blk_below b0 KYr.out)
          have HX := Lib.hid (HXr.out.below b0 (by omega))
          have HY := Lib.hid (HYr.out.below b0 (by omega))
          have S0 := b0.size
          have EW0 := Lib.hid hw0
          clear HLE HLL OI KXr KRr Br HXr HYr BI KYr hw0 b0 KR5 KX5 B5 HX5
          go_wp2
          rw [EW0.out]
          obtain ⟨b, hb⟩ : ∃ b, wr.heap.size = b := ⟨_, rfl⟩
          rw [hb] at KB S0 hyl ⊢
          have L10 := Lib.hid (Array.getElem?_eq_some_iff.1 KR0.out).1
          have GE := Lib.hid (show w.heap.size + 1 + 1 < b by omega)
          have KR0_ne := Lib.hid (show w.heap.size + 1 + 1 ≠ b by omega)
          have ST := Lib.hid (show AppK w w0 w0 b 2 (itF (fun i => FZ i) 0) none 0 0 none 0 0 from AppK.start KB.out B0.out (by omega))
          have AI := Lib.hid (fun (k : Nat) (wr : World) (hk : k < m) (hk' : ∀ g, g < w0.heap.size → g ≠ b → wr.heap[g]? = w0.heap[g]?) => HX.out.loopK (.inr (by omega)) (by omega) hk' (by rw [E1.out]; exact hk))
          have hLY : LY.length ≤ 1048576 := by rw [LLY.out]; omega
          have CI := Lib.hid (fun (k : Nat) (hk : k < m) (W : World) (hb : (∀ g, g < w0.heap.size → g ≠ b → W.heap[g]? = w0.heap[g]?) ∧ w0.heap.size ≤ W.heap.size) => ((specFirst LY (LX.getD k noI) ti tci w5.heap.size gy W (HY.out.kept (fun g o h1 h2 => by simp only [World.cell?]; rw [hb.1 g (by omega) (by omega)])) (Nat.le_trans (show gy ≤ w0.heap.size by omega) hb.2) hLY).mono (fun e w' h => by
            obtain ⟨r, hf, he, hB⟩ := h
            have h1 := fst_bound hf
            exact ⟨r, ⟨h1.1, by omega⟩, by rw [← EZ.out k]; unfold matI; rw [← fst_eq hf], he, hB⟩) : Calls Tryz.prog 18 #[.slice ti LY.length tci, .agg #[.int .i64 (LX.getD k noI).n, .int .i64 (LX.getD k noI).d, .string (LX.getD k noI).t]] W (fun e w' => ∃ r, (-1 ≤ r ∧ r ≤ 1048576) ∧ posI r = FZ k ∧ e = .returned (.int .i64 r) ∧ Below W.heap.size W w')))
          rw [LLY.out] at CI
          clear hLY
          clear HX HY EW0 hb
          go_loopw [13] (fun i wr => ∃ (k : Nat) (sa : Option Addr) (sn sc : Nat), k ≤ m ∧ i = .int .i64 k ∧ AppK w w0 wr b 2 (itF (fun i => FZ i) k) sa sn sc none 0 0) (fun i _ => m - (intOf i).toNat)
          case atStart => exact ⟨0, none, 0, 0, Nat.zero_le _, rfl, ST.out⟩
          case round =>
            obtain ⟨k, sa, sn, sc, hk, rfl, hap⟩ := hrel
            have AP := Lib.hid hap
            have KYr := Lib.hid (hap.blk KY0.out (by omega))
            have KXr := Lib.hid (hap.blk KX0.out (by omega))
            clear hap
            obtain ⟨x0, x1, x2, x3, x4, x5, x6, x7⟩ := vec8 KXr.out
            by_cases hlt : k < m
            · obtain ⟨ba, off, rfl, hbB, c0, c1, c2⟩ := AI.out k wr hlt AP.out.kept
              have CK := Lib.hid (CV0.out k hlt)
              have CF := Lib.hid (fun W hb => CI.out k hlt W hb)
              have NX := Lib.hid (itF_succ (fun i => FZ i) k)
              rw [ELX.out k hlt] at CF
              obtain ⟨y, hy⟩ : ∃ y : It, cnvI Ka M (X0.getD k noI) = y := ⟨_, rfl⟩
              rw [hy] at CK CF
              obtain ⟨x, hx⟩ : ∃ x : It, X0.getD k noI = x := ⟨_, rfl⟩
              rw [hx] at c0 c1 c2 CK
              have C0 := Lib.hid c0
              have C1 := Lib.hid c1
              have C2 := Lib.hid c2
              have LN := Lib.hid (show (itF (fun i => FZ i) k).length ≤ 1048576 by rw [itF_len]; omega)
              have hbw : ba < wr.heap.size := Nat.lt_of_lt_of_le hbB AP.out.size
              clear hx hy c0 c1 c2
              go_wp2
              have H := Lib.hid (show HeldC wr wr ([(gy, 31, #[.int .i64 Kb, .slice ti n tci, .slice tp 0 tcp, .slice tn 0 tcn, .slice tc 0 tcc, .slice tl 0 tcl, .int .i64 0, .int .i64 0]), (gx, 31, #[.int .i64 Ka, .slice (some ⟨ba, off, none⟩) m xci, .slice xp 0 xcp, .slice xn 0 xcn, .slice xc 0 xcc, .slice xl 0 xcl, .int .i64 0, .int .i64 0])]) from heldC_two (Below.refl _ _) KYr.out KXr.out)
              refine run_region (ops := (opsOf Tryz.f5 16)) (S := fun w' => HeldC wr w' ([(gy, 31, #[.int .i64 Kb, .slice ti n tci, .slice tp 0 tcp, .slice tn 0 tcn, .slice tc 0 tcc, .slice tl 0 tcl, .int .i64 0, .int .i64 0]), (gx, 31, #[.int .i64 Ka, .slice (some ⟨ba, off, none⟩) m xci, .slice xp 0 xcp, .slice xn 0 xcn, .slice xc 0 xcc, .slice xl 0 xcl, .int .i64 0, .int .i64 0])])) [(0, true), (1, true), (2, true), (3, true), (4, true), (5, true), (6, true), (7, true), (8, true), (9, true), (10, false), (11, false), (12, true)] (by kernel_rfl) (by kernel_rfl) (by kernel_rfl) (by kernel_rfl) (by kernel_rfl) (fun _ _ _ _ _ h => h) (heldC_drew H.out) ?_
              have H := Lib.hid (heldC_drew H.out)
              have AP := Lib.hid (AP.out.keep (below_drew' (Below.refl _ _)))
              refine runC_partV (b := gy) (by kernel_rfl) (show opAt (opsOf Tryz.f5 16) 0 = some (some 66, .fieldAddr 31 (.tmp 9) 1, none) from by kernel_rfl) (by kernel_rfl) (by kernel_rfl) (by kernel_rfl) ?_
              refine runC_cell (b := gy) (j := 1) (v := .slice ti n tci) load_its (show opAt (opsOf Tryz.f5 16) 1 = some (some 67, .load 28 (.tmp 66), none) from by kernel_rfl) (by kernel_rfl) (by kernel_rfl) (by kernel_rfl) (List.Mem.head _) rfl ?_
              refine runC_partV (b := gx) (by kernel_rfl) (show opAt (opsOf Tryz.f5 16) 2 = some (some 68, .fieldAddr 31 (.tmp 8) 0, none) from by kernel_rfl) (by kernel_rfl) (by kernel_rfl) (by kernel_rfl) ?_
              refine runC_cell (b := gx) (j := 0) (v := .int .i64 Ka) load_int (show opAt (opsOf Tryz.f5 16) 3 = some (some 69, .load 3 (.tmp 68), none) from by kernel_rfl) (by kernel_rfl) (by kernel_rfl) (by kernel_rfl) (List.Mem.tail _ (List.Mem.head _)) rfl ?_
              refine run_mov (v := .int .i64 M) (show opAt (opsOf Tryz.f5 16) 4 = some (some 70, .move (.tmp 10), none) from by kernel_rfl) (by kernel_rfl) (by kernel_rfl) (by kernel_rfl) ?_
              refine runC_partV (b := gx) (by kernel_rfl) (show opAt (opsOf Tryz.f5 16) 5 = some (some 71, .fieldAddr 31 (.tmp 8) 1, none) from by kernel_rfl) (by kernel_rfl) (by kernel_rfl) (by kernel_rfl) ?_
              refine runC_cell (b := gx) (j := 1) (v := .slice (some ⟨ba, off, none⟩) m xci) load_its (show opAt (opsOf Tryz.f5 16) 6 = some (some 72, .load 28 (.tmp 71), none) from by kernel_rfl) (by kernel_rfl) (by kernel_rfl) (by kernel_rfl) (List.Mem.tail _ (List.Mem.head _)) rfl ?_
              refine run_mov (v := .int .i64 (k : Int)) (show opAt (opsOf Tryz.f5 16) 7 = some (some 73, .move (.tmp 13), none) from by kernel_rfl) (by kernel_rfl) (by kernel_rfl) (by kernel_rfl) ?_
              refine run_idx3 (n := m) (c := xci) (b := ba) (off := off) (k := k) (show opAt (opsOf Tryz.f5 16) 8 = some (some 74, .indexAddr 28 (.tmp 72) (.tmp 73), none) from by kernel_rfl) (by kernel_rfl) (by kernel_rfl) (by kernel_rfl) (by kernel_rfl) hlt ?_
              refine runC_oldI (b := ba) (j := off + k * 3) (z := x) (show opAt (opsOf Tryz.f5 16) 9 = some (some 75, .load 45 (.tmp 74), none) from by kernel_rfl) (by kernel_rfl) (by kernel_rfl) (by kernel_rfl) hbw C0.out C1.out C2.out ?_
              refine run_call (args := [.int .i64 Ka, .int .i64 M, .agg #[.int .i64 x.n, .int .i64 x.d, .string x.t]]) (show opAt (opsOf Tryz.f5 16) 10 = some (some 76, .call { callee := .value (.func 17), args := [(.tmp 69), (.tmp 70), (.tmp 75)].toArray, argTypes := [3, 3, 45].toArray }, none) from by kernel_rfl) (by kernel_rfl) (by kernel_rfl) (by kernel_rfl) (by kernel_rfl) ?_
              refine (CK.out _).mono ?_
              rintro en rw1 ⟨rfl, hb⟩
              refine ⟨_, rfl, heldC_call H.out hb, ?_⟩
              have H := Lib.hid (heldC_call H.out hb)
              have AP := Lib.hid (AP.out.keep hb)
              clear hb
              refine run_call (args := [.slice ti n tci, .agg #[.int .i64 y.n, .int .i64 y.d, .string y.t]]) (show opAt (opsOf Tryz.f5 16) 11 = some (some 77, .call { callee := .value (.func 18), args := [(.tmp 67), (.tmp 76)].toArray, argTypes := [28, 45].toArray }, none) from by kernel_rfl) (by kernel_rfl) (by kernel_rfl) (by kernel_rfl) (by kernel_rfl) ?_
              refine (CF.out _ ⟨AP.out.kept, AP.out.size⟩).mono ?_
              rintro en rw2 ⟨r, ⟨hr1, hr2⟩, hrz, rfl, hb⟩
              have RZ := Lib.hid hrz
              refine ⟨_, rfl, heldC_call H.out hb, ?_⟩
              have H := Lib.hid (heldC_call H.out hb)
              have AP := Lib.hid (AP.out.keep hb)
              clear hb hrz
              refine run_asg (v := .int .i64 r) (show opAt (opsOf Tryz.f5 16) 12 = some (some 14, .assign (.tmp 77), none) from by kernel_rfl) (by kernel_rfl) (by kernel_rfl) (by kernel_rfl) ?_
              refine run_done ?_
              simp only [putAll, Act.put, List.setIfInBounds_toArray, List.set_cons_zero, List.set_cons_succ]
              clear H KYr KXr CK CF x0 x1 x2 x3 x4 x5 x6 x7 C0 C1 C2
              by_cases hz : r < 0
              · have NX := Lib.hid (show itF (fun i => FZ i) k ++ [noI] = itF (fun i => FZ i) (k + 1) by rw [← NX.out, ← RZ.out, posI_no hz])
                clear RZ
                have KBv := Lib.hid AP.out.vec
                obtain ⟨a0, a1, a2, a3, a4, a5, a6, a7⟩ := vec8 KBv.out
                go_wp2_with (at_builtin; go_loud (refine wpList_appK rfl _ _ rfl noI AP.out _ rfl rfl rfl rfl LN.out ?_))
                rintro sa' sn' sc' w8 hm
                clear a0 a1 a2 a3 a4 a5 a6 a7
                have AM := Lib.hid hm
                have AV := Lib.hid hm.vec
                obtain ⟨v0, v1, v2, v3, v4, v5, v6, v7⟩ := vec8 AV.out
                obtain ⟨f0, f1, f2, f3, f4, f5, f6, f7⟩ := free8 AV.out
                have AN := Lib.hid AM.out.store
                clear hm
                go_wp2
                go_roundw
                case rel => first | exact ⟨k + 1, sa', sn', sc', by omega, by go_num, NX.out ▸ AN.out⟩ | ((repeat apply Exists.intro); exact ⟨⟨k + 1, sa', sn', sc', by omega, by go_num, NX.out ▸ AN.out⟩, rfl⟩)
                case measure => simp [intOf]; omega
              · have NX := Lib.hid (show itF (fun i => FZ i) k ++ [⟨r + 1, 1, ⟨#[]⟩⟩] = itF (fun i => FZ i) (k + 1) by rw [← NX.out, ← RZ.out, posI_yes hz])
                have WQ := Lib.hid (show IntKind.i64.wrap (r + 1) = r + 1 from wrap64_id (by omega) (by omega))
                have CL2 := Lib.hid (fun (W : World) (_ : Below w.heap.size w W) => NL.out W (r + 1))
                clear RZ
                go_wp2
                have H := Lib.hid (show HeldC w rw2 ([(b, 31, #[.int .i64 2, .slice sa sn sc, .slice none 0 0, .slice none 0 0, .slice none 0 0, .slice none 0 0, .int .i64 0, .int .i64 0])]) from heldC_one AP.out.below AP.out.vec)
                have FAR := Lib.hid (fun (q : Nat × TypeId × Array Value) (hq : q ∈ ([(b, 31, #[.int .i64 2, .slice sa sn sc, .slice none 0 0, .slice none 0 0, .slice none 0 0, .slice none 0 0, .int .i64 0, .int .i64 0])] : List (Nat × TypeId × Array Value))) (j : Nat) (hj : (Value.slice sa sn sc).ownBlock = some j) => (by
                  obtain rfl := List.mem_singleton.1 hq
                  exact AP.out.far hj (.inl AP.out.lt) : q.1 ≠ j))
                refine run_region (ops := (opsOf Tryz.f5 19)) (S := fun w' => HeldC w w' ([(b, 31, #[.int .i64 2, .slice sa sn sc, .slice none 0 0, .slice none 0 0, .slice none 0 0, .slice none 0 0, .int .i64 0, .int .i64 0])])) [(0, true), (1, true), (2, true), (3, true), (4, false), (5, false), (6, false), (7, true), (8, false)] (by kernel_rfl) (by kernel_rfl) (by kernel_rfl) (by kernel_rfl) (by kernel_rfl) (fun _ _ _ _ _ h => h) (heldC_drew H.out) ?_
                have H := Lib.hid (heldC_drew H.out)
                have AP := Lib.hid (AP.out.keep (below_drew' (Below.refl _ _)))
                refine runC_partV (b := b) (by kernel_rfl) (show opAt (opsOf Tryz.f5 19) 0 = some (some 86, .fieldAddr 31 (.tmp 12) 1, none) from by kernel_rfl) (by kernel_rfl) (by kernel_rfl) (by kernel_rfl) ?_
                refine runC_cell (b := b) (j := 1) (v := .slice sa sn sc) load_its (show opAt (opsOf Tryz.f5 19) 1 = some (some 87, .load 28 (.tmp 86), none) from by kernel_rfl) (by kernel_rfl) (by kernel_rfl) (by kernel_rfl) (List.Mem.head _) rfl ?_
                refine run_mov (v := .int .i64 r) (show opAt (opsOf Tryz.f5 19) 2 = some (some 88, .move (.tmp 14), none) from by kernel_rfl) (by kernel_rfl) (by kernel_rfl) (by kernel_rfl) ?_
                refine run_add (k := .i64) (p := r) (q := 1) (z := (r + 1)) (show opAt (opsOf Tryz.f5 19) 3 = some (some 89, .binOp .add 3 (.tmp 88) (.const (.int .i64 1)) 3, none) from by kernel_rfl) (by kernel_rfl) (by kernel_rfl) (by kernel_rfl) (by kernel_rfl) WQ.out ?_
                refine run_call (args := [.int .i64 ((r + 1))]) (show opAt (opsOf Tryz.f5 19) 4 = some (some 90, .call { callee := .value (.func 19), args := [(.tmp 89)].toArray, argTypes := [3].toArray }, none) from by kernel_rfl) (by kernel_rfl) (by kernel_rfl) (by kernel_rfl) (by kernel_rfl) ?_
                refine (CL2.out _ H.out.1).mono ?_
                rintro en rw1 ⟨rfl, hb⟩
                refine ⟨_, rfl, heldC_call H.out hb, ?_⟩
                have H := Lib.hid (heldC_call H.out hb)
                have AP := Lib.hid (AP.out.keep hb)
                clear hb
                refine tail_item2 ⟨r + 1, 1, ⟨#[]⟩⟩ (show opAt (opsOf Tryz.f5 19) 5 = some (some 91, .buildSlice 28 1 #[(0, (.tmp 90))], none) from by kernel_rfl) (by kernel_rfl) (by kernel_rfl) (show opAt (opsOf Tryz.f5 19) 6 = some (some 92, .call { callee := .builtin .append, args := [(.tmp 87), (.tmp 91)].toArray, argTypes := [28, 28].toArray }, none) from by kernel_rfl) (by kernel_rfl) (fun _ => by kernel_rfl) (show opAt (opsOf Tryz.f5 19) 7 = some (some 93, .fieldAddr 31 (.tmp 12) 1, none) from by kernel_rfl) (by kernel_rfl) (by kernel_rfl) (fun _ _ => by kernel_rfl) (show opAt (opsOf Tryz.f5 19) 8 = some (none, .store 28 (.tmp 93) (.tmp 92), none) from by kernel_rfl) (by kernel_rfl) (by kernel_rfl) H.out AP.out.row LN.out AP.out.size (Nat.le_trans AP.out.ge (Nat.le_of_lt AP.out.lt)) (List.Mem.head _) rfl AP.out.lt AP.out.ge (fun q hq => FAR.out q hq) ?_
                rintro v' w4 ⟨sa, sn, sc, rfl⟩ hK hO hB hZ hR hG
                simp only [putAll, Act.put, List.setIfInBounds_toArray, List.set_cons_zero, List.set_cons_succ]
                have AN := Lib.hid (AP.out.next hK hO hB hZ hG)
                clear hK hO hB hR hG hZ H FAR LN
                go_wp2
                go_roundw
                case rel => first | exact ⟨k + 1, sa, sn, sc, by omega, by go_num, NX.out ▸ AN.out⟩ | ((repeat apply Exists.intro); exact ⟨⟨k + 1, sa, sn, sc, by omega, by go_num, NX.out ▸ AN.out⟩, rfl⟩)
                case measure => simp [intOf]; omega
            · obtain rfl : k = m := by omega
              have KA1 := Lib.hid AP.out.vec
              have KZ := Lib.hid (AP.out.blk KR0.out KR0_ne.out)
              have FN := Lib.hid (AP.out.fin (names := []) (r := w.heap.size + 1 + 1) (.inl ⟨rfl, rfl⟩) List.nodup_nil (fun g hg => by cases hg) (Nat.zero_le _) (by have := AP.out.lt; have := L10.out; have := GE.out; omega))
              obtain ⟨k0, k1, k2, k3, k4, k5, k6, k7⟩ := vec8 KA1.out
              obtain ⟨z0, z1, z2, z3, z4, z5, z6, z7⟩ := vec8 KZ.out
              obtain ⟨f0, f1, f2, f3, f4, f5, f6, f7⟩ := free8 KZ.out
              go_wp2
              rw [XV.out, XS.out]
              exact vec_endS rfl rfl rfl rfl KZ.out FN.out.withS
    · have hQb : (Q.toList == []) = false := by have h := str_not hq; rw [ByteArray.toList_eq ⟨#[]⟩] at h; exact h
      have ER := S1.out hp
      have XV := Lib.hid (XN.out (by rw [ER]; exact hq))
      have CE2 := Lib.hid (fun W => (by have q := CE.out W; rw [bB_yes hp] at q; exact q : Calls Tryz.prog 15 #[.string P, .string Q] W (fun e w' => e = .returned (.string Q) ∧ W = w')))
      clear CE
      obtain rfl := hp
      clear OK0 OK1 S0 S1 XY XN D0 D1 hq NL
      go_wp2_with fail
      with_reducible refine (CE2.out _).mono ?_
      rintro e w4 ⟨rfl, rfl⟩
      have XS := Lib.hid ER
      obtain ⟨z0, z1, z2, z3, z4, z5, z6, z7⟩ := vec8 KR.out
      obtain ⟨f0, f1, f2, f3, f4, f5, f6, f7⟩ := free8 KR.out
      go_wp2
      rw [XV.out, XS.out]
      exact vec_endS rfl rfl rfl rfl KR.out (zeroS _ w _ (put8_below B.out (by omega)))
  · have hPb : (P.toList == []) = false := by have h := str_not hp; rw [ByteArray.toList_eq ⟨#[]⟩] at h; exact h
    have ER := S0.out hp
    have XV := Lib.hid (XN.out (by rw [ER]; exact hp))
    have CE2 := Lib.hid (fun W => (by have q := CE.out W; rw [bB_no hp] at q; exact q : Calls Tryz.prog 15 #[.string P, .string Q] W (fun e w' => e = .returned (.string P) ∧ W = w')))
    clear CE OK0 OK1 S0 S1 XY XN D0 D1 hp NL
    go_wp2_with fail
    with_reducible refine (CE2.out _).mono ?_
    rintro e w4 ⟨rfl, rfl⟩
    have XS := Lib.hid ER
    obtain ⟨z0, z1, z2, z3, z4, z5, z6, z7⟩ := vec8 KR.out
    obtain ⟨f0, f1, f2, f3, f4, f5, f6, f7⟩ := free8 KR.out
    go_wp2
    rw [XV.out, XS.out]
    exact vec_endS rfl rfl rfl rfl KR.out (zeroS _ w _ (put8_below B.out (by omega)))
end Go.Proofs.YtikgcogiiohahaaGreatDoor

/- The program's plainOfOneKind. -/
namespace Go.Proofs.YtikgcogiiohahaaGreatDoor
open Go.RowKit
set_option maxRecDepth 100000
set_option linter.unusedVariables false

theorem res2 {fn : Func} {p u : Tmp} {s t : TypeId} (h : fn.results = #[.cell p s, .cell u t]) (tmps : Array Value) (P : Program) (w : World) :
    (results fn tmps).run P w =
      ((asAddr (tmps.getD p undef)).run P w).andThen fun a w₁ => ((loadVar s a).run P w₁).andThen fun v w₂ => ((asAddr (tmps.getD u undef)).run P w₂).andThen fun b w₃ => ((loadVar t b).run P w₃).andThen fun v' w₄ => .ok (.tuple #[v, v']) w₄ := by
  simp only [results, h]
  simp [Sem.run_bind, Result.andThen]
/-- Two vectors in the results' blocks. -/
theorem vec_ret2 {fn : Func} {R : Ending → World → Prop} {act : Act} {w : World} {g k : Nat} {p u : Tmp} {a0 a1 a2 a3 a4 a5 a6 a7 b0 b1 b2 b3 b4 b5 b6 b7 : Value} {t s : TypeId} {fr fs : Nat × Nat}
    (hfn : fn.results = #[.cell p 31, .cell u 31]) (hp : act.tmps.getD p undef = .pointer (some ⟨g, 0, none⟩)) (hq : act.tmps.getD u undef = .pointer (some ⟨k, 0, none⟩)) (hd : act.defers = [])
    (hg : w.heap[g]? = some (.cells #[a0, a1, a2, a3, a4, a5, a6, a7] t fr)) (hk : w.heap[k]? = some (.cells #[b0, b1, b2, b3, b4, b5, b6, b7] s fs))
    (hR : R (.returned (.tuple #[.agg #[a0, a1, a2, a3, a4, a5, a6, a7], .agg #[b0, b1, b2, b3, b4, b5, b6, b7]])) w) : bodyPost Tryz.prog fn R .ret act w :=
  bodyPost_ret (by
    have e1 := run_loadVar_row (P := Tryz.prog) w g t 31 #[a0, a1, a2, a3, a4, a5, a6, a7] fr _ hg Tryz.underlying31 rfl infoVec
    have e2 := run_loadVar_row (P := Tryz.prog) w k s 31 #[b0, b1, b2, b3, b4, b5, b6, b7] fs _ hk Tryz.underlying31 rfl infoVec
    rw [res2 hfn, hp, hq]
    show ((loadVar 31 ⟨g, 0, none⟩).run Tryz.prog w).andThen _ = _
    rw [e1]
    show ((loadVar 31 ⟨k, 0, none⟩).run Tryz.prog w).andThen _ = _
    rw [e2]; rfl) hd hR
section
variable {P : Program} {ops : Array Oper} {Q : Exit → Act → World → Prop} {S : World → Prop}
variable {r : List (Nat × Bool)} {a : Act} {e : List (Nat × Value)} {w : World} {i d : Nat} {g : Option (Nat × Bool)} {v : Value}
/-- A load where nothing else may come up. -/
theorem run_loadE {x : Operand} {t : TypeId} {p : Value} (ho : opAt ops i = some (some d, .load t x, g)) (hd : Nat.blt d a.tmps.size = true) (hw : wantE ops a e g = some true)
    (hx : lookO a e x = p) (hl : (Instr.loadAt t p).run P w = .ok v w) (hS : S w) (h : RunE P ops Q S r a ((d, v) :: e) w) : RunE P ops Q S ((i, false) :: r) a e w :=
  run_eff ho hd hw (fun o h1 => by
    unfold execOp; rw [h1]; simp only [hx]
    exact run_v hl) hS h
end
/-- Two vectors of one kind, without names. -/
def TwoP (w : World) (K : Int) (Y N : List It) (e : Ending) (w' : World) : Prop := ∃ a b, e = .returned (.tuple #[a, b]) ∧ Own 1 (mkN K Y []) a w.heap.size w'.heap.size w' ∧ Own 1 (mkN K N []) b w.heap.size w'.heap.size w' ∧ Below w.heap.size w w'
set_option maxHeartbeats 8000000 in
theorem implPlainTwo (d1 d2 : Nat) (y n : Vec) (vy vn : Value) (lo hi : Nat) (w : World) (hy : VecAt lo hi w d1 y vy) (hn : VecAt lo hi w d2 n vn) (hhi : hi ≤ w.heap.size) (oy : AtmOk (kindV y) (itemsV y) (levV y)) (on : AtmOk (kindV n) (itemsV n) (levV n)) (tab : Lib.TabIs Tryz.prog w "internal/strconv.uint64pow10" .u64 Lib.pow10Tab) :
    Calls Tryz.prog 24 #[vy, vn] w (TwoP w (chK y n) (chP y (chK y n)) (chP n (chK y n))) := by
  obtain ⟨yk, ya1, yn1, ym1, ya2, yn2, ym2, ya3, yn3, ym3, ya4, yn4, ym4, ya5, yn5, ym5, yc, ye, rfl⟩ := hy.agg
  obtain ⟨nk, na1, nn1, nm1, na2, nn2, nm2, na3, nn3, nm3, na4, nn4, nm4, na5, nn5, nm5, nc, ne, rfl⟩ := hn.agg
  obtain ⟨ky, iy, py, ny, cy, ly, codey, envy⟩ := y
  obtain ⟨kn, im, pn, nn, cn, ln, coden, envn⟩ := n
  have C1 := Lib.hid (fun (w1 : World) (hb : Below w.heap.size w w1) => implPlain d1 ky iy py ny cy ly codey envy _ lo hi w1 (hy.below hb hhi) (Nat.le_trans hhi hb.size) oy)
  have C2 := Lib.hid (fun (w1 : World) (hb : Below w.heap.size w w1) => implPlain d2 kn im pn nn cn ln coden envn _ lo hi w1 (hn.below hb hhi) (Nat.le_trans hhi hb.size) on)
  have E : TwoP w (chK (.mk ky iy py ny cy ly codey envy) (.mk kn im pn nn cn ln coden envn)) (chP (.mk ky iy py ny cy ly codey envy) (chK (.mk ky iy py ny cy ly codey envy) (.mk kn im pn nn cn ln coden envn))) (chP (.mk kn im pn nn cn ln coden envn) (chK (.mk ky iy py ny cy ly codey envy) (.mk kn im pn nn cn ln coden envn))) = TwoP w (maxI (plnK ky ly) (plnK kn ln)) (cnvL (plnK ky ly) (maxI (plnK ky ly) (plnK kn ln)) (plnL ly iy)) (cnvL (plnK kn ln) (maxI (plnK ky ly) (plnK kn ln)) (plnL ln im)) := rfl
  rw [E]
  have p1 := oy.pk
  have p2 := on.pk
  have CC1 := Lib.hid (fun (W : World) (val : Value) (h : VecAt 0 W.heap.size W 1 (.mk (plnK ky ly) (plnL ly iy) [] [] [] [] 0 0) val) (hb : Below w.heap.size w W) => (implConv 1 (plnK ky ly) (maxI (plnK ky ly) (plnK kn ln)) (plnL ly iy) [] [] [] [] 0 0 val 0 W.heap.size W h (Nat.le_refl _) p1.1 (maxI_l _ _) (maxI_le p1.2.1 p2.2.1) (by rw [plnL_len]; exact oy.len) (by simp) (fun i hi => oy.pln (by rw [plnL_len] at hi; exact hi)) (tab_below tab hb) : Calls Tryz.prog 45 #[val, .int .i64 (maxI (plnK ky ly) (plnK kn ln))] W (ResV 1 (mkN (maxI (plnK ky ly) (plnK kn ln)) (cnvL (plnK ky ly) (maxI (plnK ky ly) (plnK kn ln)) (plnL ly iy)) []) W)))
  have CC2 := Lib.hid (fun (W : World) (val : Value) (h : VecAt 0 W.heap.size W 1 (.mk (plnK kn ln) (plnL ln im) [] [] [] [] 0 0) val) (hb : Below w.heap.size w W) => (implConv 1 (plnK kn ln) (maxI (plnK ky ly) (plnK kn ln)) (plnL ln im) [] [] [] [] 0 0 val 0 W.heap.size W h (Nat.le_refl _) p2.1 (maxI_r _ _) (maxI_le p1.2.1 p2.2.1) (by rw [plnL_len]; exact on.len) (by simp) (fun i hi => on.pln (by rw [plnL_len] at hi; exact hi)) (tab_below tab hb) : Calls Tryz.prog 45 #[val, .int .i64 (maxI (plnK ky ly) (plnK kn ln))] W (ResV 1 (mkN (maxI (plnK ky ly) (plnK kn ln)) (cnvL (plnK kn ln) (maxI (plnK ky ly) (plnK kn ln)) (plnL ln im)) []) W)))
  have CL := Lib.hid (fun (ai0 ap0 an0 ac0 al0 : Option Addr) (n0 ci0 np0 cp0 nn0 cn0 nc0 cc0 nl0 cl0 : Nat) (code0 env0 : Int) (ai1 ap1 an1 ac1 al1 : Option Addr) (n1 ci1 np1 cp1 nn1 cn1 nc1 cc1 nl1 cl1 : Nat) (code1 env1 : Int) (g : Nat) (W : World) hg => implLatest2 (plnK ky ly) ai0 ap0 an0 ac0 al0 n0 ci0 np0 cp0 nn0 cn0 nc0 cc0 nl0 cl0 code0 env0 (plnK kn ln) ai1 ap1 an1 ac1 al1 n1 ci1 np1 cp1 nn1 cn1 nc1 cc1 nl1 cl1 code1 env1 g W ⟨p1.1, p1.2.1⟩ ⟨p2.1, p2.2.1⟩ hg)
  clear hy hn E p1 p2 oy on tab
  obtain ⟨M, hM⟩ : ∃ k, maxI (plnK ky ly) (plnK kn ln) = k := ⟨_, rfl⟩
  rw [hM] at CC1 CC2 CL ⊢
  obtain ⟨L1, hL1⟩ : ∃ l, cnvL (plnK ky ly) M (plnL ly iy) = l := ⟨_, rfl⟩
  obtain ⟨L2, hL2⟩ : ∃ l, cnvL (plnK kn ln) M (plnL ln im) = l := ⟨_, rfl⟩
  rw [hL1] at CC1 ⊢
  rw [hL2] at CC2 ⊢
  obtain ⟨K1, hK1⟩ : ∃ k, plnK ky ly = k := ⟨_, rfl⟩
  obtain ⟨K2, hK2⟩ : ∃ k, plnK kn ln = k := ⟨_, rfl⟩
  obtain ⟨X1, hX1⟩ : ∃ l, plnL ly iy = l := ⟨_, rfl⟩
  obtain ⟨X2, hX2⟩ : ∃ l, plnL ln im = l := ⟨_, rfl⟩
  rw [hK1] at C1 CC1 CL
  rw [hK2] at C2 CC2 CL
  rw [hX1] at C1 CC1
  rw [hX2] at C2 CC2
  clear hM hL1 hL2 hK1 hK2 hX1 hX2
  have hs1 : (w.alloc (.cells #[.int .i64 yk, .slice ya1 yn1 ym1, .slice ya2 yn2 ym2, .slice ya3 yn3 ym3, .slice ya4 yn4 ym4, .slice ya5 yn5 ym5, .int .i64 yc, .int .i64 ye] 31)).heap.size = w.heap.size + 1 := by simp
  have hs2 : ((w.alloc (.cells #[.int .i64 yk, .slice ya1 yn1 ym1, .slice ya2 yn2 ym2, .slice ya3 yn3 ym3, .slice ya4 yn4 ym4, .slice ya5 yn5 ym5, .int .i64 yc, .int .i64 ye] 31)).alloc (.cells #[.int .i64 nk, .slice na1 nn1 nm1, .slice na2 nn2 nm2, .slice na3 nn3 nm3, .slice na4 nn4 nm4, .slice na5 nn5 nm5, .int .i64 nc, .int .i64 ne] 31)).heap.size = w.heap.size + 1 + 1 := by simp
  have hs3 : (((w.alloc (.cells #[.int .i64 yk, .slice ya1 yn1 ym1, .slice ya2 yn2 ym2, .slice ya3 yn3 ym3, .slice ya4 yn4 ym4, .slice ya5 yn5 ym5, .int .i64 yc, .int .i64 ye] 31)).alloc (.cells #[.int .i64 nk, .slice na1 nn1 nm1, .slice na2 nn2 nm2, .slice na3 nn3 nm3, .slice na4 nn4 nm4, .slice na5 nn5 nm5, .int .i64 nc, .int .i64 ne] 31)).alloc (.cells #[.int .i64 0, .slice none 0 0, .slice none 0 0, .slice none 0 0, .slice none 0 0, .slice none 0 0, .int .i64 0, .int .i64 0] 31)).heap.size = w.heap.size + 1 + 1 + 1 := by simp
  obtain ⟨w1, hw1⟩ : ∃ W, (((w.alloc (.cells #[.int .i64 yk, .slice ya1 yn1 ym1, .slice ya2 yn2 ym2, .slice ya3 yn3 ym3, .slice ya4 yn4 ym4, .slice ya5 yn5 ym5, .int .i64 yc, .int .i64 ye] 31)).alloc (.cells #[.int .i64 nk, .slice na1 nn1 nm1, .slice na2 nn2 nm2, .slice na3 nn3 nm3, .slice na4 nn4 nm4, .slice na5 nn5 nm5, .int .i64 nc, .int .i64 ne] 31)).alloc (.cells #[.int .i64 0, .slice none 0 0, .slice none 0 0, .slice none 0 0, .slice none 0 0, .slice none 0 0, .int .i64 0, .int .i64 0] 31)).alloc (.cells #[.int .i64 0, .slice none 0 0, .slice none 0 0, .slice none 0 0, .slice none 0 0, .slice none 0 0, .int .i64 0, .int .i64 0] 31) = W := ⟨_, rfl⟩
  have B1 := Lib.hid (show Below w.heap.size w w1 from hw1 ▸ (((below1 w _).alloc (by simp) _).alloc (by simp; omega) _).alloc (by simp; omega) _)
  have KY := Lib.hid (show w1.heap[w.heap.size]? = some (.cells #[.int .i64 yk, .slice ya1 yn1 ym1, .slice ya2 yn2 ym2, .slice ya3 yn3 ym3, .slice ya4 yn4 ym4, .slice ya5 yn5 ym5, .int .i64 yc, .int .i64 ye] 31 (0, 0)) from hw1 ▸ blk_old (blk_old (blk_old (blk_new w _ rfl))))
  have KN := Lib.hid (show w1.heap[w.heap.size + 1]? = some (.cells #[.int .i64 nk, .slice na1 nn1 nm1, .slice na2 nn2 nm2, .slice na3 nn3 nm3, .slice na4 nn4 nm4, .slice na5 nn5 nm5, .int .i64 nc, .int .i64 ne] 31 (0, 0)) from by rw [← hw1]; exact blk_old (blk_old (blk_new _ _ hs1.symm)))
  have K4 := Lib.hid (show w1.heap[w.heap.size + 1 + 1]? = some (.cells #[.int .i64 0, .slice none 0 0, .slice none 0 0, .slice none 0 0, .slice none 0 0, .slice none 0 0, .int .i64 0, .int .i64 0] 31 (0, 0)) from by rw [← hw1]; exact blk_old (blk_new _ _ hs2.symm))
  have K5 := Lib.hid (show w1.heap[w.heap.size + 1 + 1 + 1]? = some (.cells #[.int .i64 0, .slice none 0 0, .slice none 0 0, .slice none 0 0, .slice none 0 0, .slice none 0 0, .int .i64 0, .int .i64 0] 31 (0, 0)) from by rw [← hw1]; exact blk_new _ _ hs3.symm)
  have HS1 := Lib.hid (show w.heap.size + 1 + 1 + 1 + 1 = w1.heap.size by rw [← hw1]; simp)
  have EW := Lib.hid hw1
  clear hw1 hs1 hs2 hs3
  go_enter Tryz.func24, Tryz.ntmps24
  go_upto_region 1 with (fail)
  rw [EW.out]
  have H := Lib.hid (heldC_one B1.out KN.out)
  refine run_region (ops := (opsOf Tryz.f24 1)) (S := fun w' => HeldC w w' ([(w.heap.size + 1, 31, #[.int .i64 nk, .slice na1 nn1 nm1, .slice na2 nn2 nm2, .slice na3 nn3 nm3, .slice na4 nn4 nm4, .slice na5 nn5 nm5, .int .i64 nc, .int .i64 ne])])) [(2, true), (0, false), (1, false), (3, false), (4, false), (5, false)] (by kernel_rfl) (by kernel_rfl) (by kernel_rfl) (by kernel_rfl) (by kernel_rfl) (fun _ _ _ _ _ h => h) (heldC_drew H.out) ?_
  have H := Lib.hid (heldC_drew H.out)
  have hbd : Below w1.heap.size w1 w1.drew := below_drew' (Below.refl _ _)
  obtain ⟨wd, hwd⟩ : ∃ W, w1.drew = W := ⟨_, rfl⟩
  rw [hwd] at H hbd ⊢
  have BD := Lib.hid (below_then B1.out hbd)
  have KY := Lib.hid (blk_below hbd KY.out)
  have KN := Lib.hid (blk_below hbd KN.out)
  have K4 := Lib.hid (blk_below hbd K4.out)
  have K5 := Lib.hid (blk_below hbd K5.out)
  have SD := Lib.hid (Nat.le_trans (Nat.le_of_eq HS1.out) hbd.size)
  clear hbd hwd B1
  refine runC_vec (b := w.heap.size + 1) (show opAt (opsOf Tryz.f24 1) 2 = some (some 9, .load 31 (.tmp 3), none) from by kernel_rfl) (by kernel_rfl) (by kernel_rfl) (by kernel_rfl) (List.Mem.head _) ?_
  refine run_loadE (p := .pointer (some ⟨w.heap.size, 0, none⟩)) (show opAt (opsOf Tryz.f24 1) 0 = some (some 7, .load 31 (.tmp 2), none) from by kernel_rfl) (by kernel_rfl) (by kernel_rfl) (by kernel_rfl) (load_vec KY.out) H.out ?_
  refine run_call (args := [.agg #[.int .i64 yk, .slice ya1 yn1 ym1, .slice ya2 yn2 ym2, .slice ya3 yn3 ym3, .slice ya4 yn4 ym4, .slice ya5 yn5 ym5, .int .i64 yc, .int .i64 ye]]) (show opAt (opsOf Tryz.f24 1) 1 = some (some 8, .call { callee := .value (.func 43), args := [(.tmp 7)].toArray, argTypes := [31].toArray }, none) from by kernel_rfl) (by kernel_rfl) (by kernel_rfl) (by kernel_rfl) (by kernel_rfl) ?_
  with_reducible refine (C1.out _ BD.out).mono ?_
  rintro en w2 ⟨y1, rfl, ho, b⟩
  refine ⟨_, rfl, heldC_call H.out b, ?_⟩
  have H := Lib.hid (heldC_call H.out b)
  obtain ⟨dd1, ai1, ci1, ap1, cp1, an1, cn1, ac1, cc1, al1, cl1, ed1, rfl, -⟩ := vecAt_open (show VecAt 0 w2.heap.size w2 1 (.mk K1 X1 [] [] [] [] 0 0) y1 from ho.vat (Nat.le_refl _))
  have O1 := Lib.hid (show Own 1 (.mk K1 X1 [] [] [] [] 0 0) (.agg #[.int .i64 K1, .slice ai1 X1.length ci1, .slice ap1 0 cp1, .slice an1 0 cn1, .slice ac1 0 cc1, .slice al1 0 cl1, .int .i64 0, .int .i64 0]) wd.heap.size w2.heap.size w2 from ho)
  have B2 := Lib.hid (below_then BD.out b)
  have KY := Lib.hid (blk_below b KY.out)
  have KN := Lib.hid (blk_below b KN.out)
  have K4 := Lib.hid (blk_below b K4.out)
  have K5 := Lib.hid (blk_below b K5.out)
  have HB2 := Lib.hid b.size
  clear b ho ed1
  refine run_call (args := [.agg #[.int .i64 nk, .slice na1 nn1 nm1, .slice na2 nn2 nm2, .slice na3 nn3 nm3, .slice na4 nn4 nm4, .slice na5 nn5 nm5, .int .i64 nc, .int .i64 ne]]) (show opAt (opsOf Tryz.f24 1) 3 = some (some 10, .call { callee := .value (.func 43), args := [(.tmp 9)].toArray, argTypes := [31].toArray }, none) from by kernel_rfl) (by kernel_rfl) (by kernel_rfl) (by kernel_rfl) (by kernel_rfl) ?_
  with_reducible refine (C2.out _ B2.out).mono ?_
  rintro en w3 ⟨y2, rfl, ho, b⟩
  refine ⟨_, rfl, heldC_call H.out b, ?_⟩
  have H := Lib.hid (heldC_call H.out b)
  obtain ⟨dd2, ai2, ci2, ap2, cp2, an2, cn2, ac2, cc2, al2, cl2, ed2, rfl, -⟩ := vecAt_open (show VecAt 0 w3.heap.size w3 1 (.mk K2 X2 [] [] [] [] 0 0) y2 from ho.vat (Nat.le_refl _))
  have O1 := Lib.hid (O1.out.below b (Nat.le_refl _))
  have SD1 := Lib.hid (show wd.heap.size ≤ w2.heap.size from HB2.out)
  have S3 := Lib.hid b.size
  have SD2 := Lib.hid (O1.out.vat (Nat.le_refl _))
  have O2 := Lib.hid (show Own 1 (.mk K2 X2 [] [] [] [] 0 0) (.agg #[.int .i64 K2, .slice ai2 X2.length ci2, .slice ap2 0 cp2, .slice an2 0 cn2, .slice ac2 0 cc2, .slice al2 0 cl2, .int .i64 0, .int .i64 0]) w2.heap.size w3.heap.size w3 from ho)
  have B3 := Lib.hid (below_then B2.out b)
  have KY := Lib.hid (blk_below b KY.out)
  have KN := Lib.hid (blk_below b KN.out)
  have K4 := Lib.hid (blk_below b K4.out)
  have K5 := Lib.hid (blk_below b K5.out)
  clear b ho ed2 SD2
  refine run_store (w' := w3.setRow (w.heap.size) #[.int .i64 K1, .slice ai1 X1.length ci1, .slice ap1 0 cp1, .slice an1 0 cn1, .slice ac1 0 cc1, .slice al1 0 cl1, .int .i64 0, .int .i64 0]) (show opAt (opsOf Tryz.f24 1) 4 = some (none, .store 31 (.tmp 2) (.tmp 8), none) from by kernel_rfl) (by kernel_rfl) (by kernel_rfl) (by kernel_rfl) (store_vec8 KY.out (by simp [Value.oneCell'])) ⟨below_row H.out.1 (Nat.le_refl _) _, fun q hq => row_old (H.out.2 q hq) (by obtain rfl := List.mem_singleton.1 hq; simp)⟩ ?_
  refine run_last (w' := (w3.setRow (w.heap.size) #[.int .i64 K1, .slice ai1 X1.length ci1, .slice ap1 0 cp1, .slice an1 0 cn1, .slice ac1 0 cc1, .slice al1 0 cl1, .int .i64 0, .int .i64 0]).setRow (w.heap.size + 1) #[.int .i64 K2, .slice ai2 X2.length ci2, .slice ap2 0 cp2, .slice an2 0 cn2, .slice ac2 0 cc2, .slice al2 0 cl2, .int .i64 0, .int .i64 0]) (by kernel_rfl) (show opAt (opsOf Tryz.f24 1) 5 = some (none, .store 31 (.tmp 3) (.tmp 10), none) from by kernel_rfl) (by kernel_rfl) (by kernel_rfl) (by kernel_rfl) (store_vec8 (row_old KN.out (by simp)) (by simp [Value.oneCell'])) ?_
  refine run_done ?_
  simp only [putAll, Act.put, List.setIfInBounds_toArray, List.set_cons_zero, List.set_cons_succ]
  obtain ⟨w5, hw5⟩ : ∃ W, (w3.setRow (w.heap.size) #[.int .i64 K1, .slice ai1 X1.length ci1, .slice ap1 0 cp1, .slice an1 0 cn1, .slice ac1 0 cc1, .slice al1 0 cl1, .int .i64 0, .int .i64 0]).setRow (w.heap.size + 1) #[.int .i64 K2, .slice ai2 X2.length ci2, .slice ap2 0 cp2, .slice an2 0 cn2, .slice ac2 0 cc2, .slice al2 0 cl2, .int .i64 0, .int .i64 0] = W := ⟨_, rfl⟩
  have hsz5 : w5.heap.size = w3.heap.size := by rw [← hw5]; simp
  have O1 := Lib.hid (show Own 1 (.mk K1 X1 [] [] [] [] 0 0) (.agg #[.int .i64 K1, .slice ai1 X1.length ci1, .slice ap1 0 cp1, .slice an1 0 cn1, .slice ac1 0 cc1, .slice al1 0 cl1, .int .i64 0, .int .i64 0]) wd.heap.size w2.heap.size w5 from hw5 ▸ (O1.out.row (by have := SD.out; omega)).row (by have := SD.out; omega))
  have O2 := Lib.hid (show Own 1 (.mk K2 X2 [] [] [] [] 0 0) (.agg #[.int .i64 K2, .slice ai2 X2.length ci2, .slice ap2 0 cp2, .slice an2 0 cn2, .slice ac2 0 cc2, .slice al2 0 cl2, .int .i64 0, .int .i64 0]) w2.heap.size w3.heap.size w5 from hw5 ▸ (O2.out.row (by have := SD.out; have := SD1.out; omega)).row (by have := SD.out; have := SD1.out; omega))
  have B5 := Lib.hid (show Below w.heap.size w w5 from hw5 ▸ below_row (below_row B3.out (Nat.le_refl _) _) (by omega) _)
  have KY := Lib.hid (show w5.heap[w.heap.size]? = some (.cells #[.int .i64 K1, .slice ai1 X1.length ci1, .slice ap1 0 cp1, .slice an1 0 cn1, .slice ac1 0 cc1, .slice al1 0 cl1, .int .i64 0, .int .i64 0] 31 (0, 0)) from hw5 ▸ row_old (row_set KY.out) (by simp))
  have KN := Lib.hid (show w5.heap[w.heap.size + 1]? = some (.cells #[.int .i64 K2, .slice ai2 X2.length ci2, .slice ap2 0 cp2, .slice an2 0 cn2, .slice ac2 0 cc2, .slice al2 0 cl2, .int .i64 0, .int .i64 0] 31 (0, 0)) from hw5 ▸ row_set (row_old KN.out (by simp)))
  have K4 := Lib.hid (show w5.heap[w.heap.size + 1 + 1]? = some (.cells #[.int .i64 0, .slice none 0 0, .slice none 0 0, .slice none 0 0, .slice none 0 0, .slice none 0 0, .int .i64 0, .int .i64 0] 31 (0, 0)) from hw5 ▸ row_old (row_old K4.out (by simp; omega)) (by simp))
  have K5 := Lib.hid (show w5.heap[w.heap.size + 1 + 1 + 1]? = some (.cells #[.int .i64 0, .slice none 0 0, .slice none 0 0, .slice none 0 0, .slice none 0 0, .slice none 0 0, .int .i64 0, .int .i64 0] 31 (0, 0)) from hw5 ▸ row_old (row_old K5.out (by simp; omega)) (by simp; omega))
  rw [hw5]
  have SZ5 := Lib.hid hsz5
  clear hw5 hsz5 H
  obtain ⟨y0, y1, y2, y3, y4, y5, y6, y7⟩ := vec8 KY.out
  obtain ⟨n0, n1, n2, n3, n4, n5, n6, n7⟩ := vec8 KN.out
  have hlt5 := (Array.getElem?_eq_some_iff.1 KN.out).1
  go_wp2_with fail
  obtain ⟨w6, hw6⟩ : ∃ W, w5.alloc (.cells #[.int .i64 K1, .slice ai1 X1.length ci1, .slice ap1 0 cp1, .slice an1 0 cn1, .slice ac1 0 cc1, .slice al1 0 cl1, .int .i64 0, .int .i64 0, .int .i64 K2, .slice ai2 X2.length ci2, .slice ap2 0 cp2, .slice an2 0 cn2, .slice ac2 0 cc2, .slice al2 0 cl2, .int .i64 0, .int .i64 0] 31) = W := ⟨_, rfl⟩
  have b : Below w5.heap.size w5 w6 := hw6 ▸ below1 w5 _
  have KG := Lib.hid (show w6.heap[w5.heap.size]? = some (.cells #[.int .i64 K1, .slice ai1 X1.length ci1, .slice ap1 0 cp1, .slice an1 0 cn1, .slice ac1 0 cc1, .slice al1 0 cl1, .int .i64 0, .int .i64 0, .int .i64 K2, .slice ai2 X2.length ci2, .slice ap2 0 cp2, .slice an2 0 cn2, .slice ac2 0 cc2, .slice al2 0 cl2, .int .i64 0, .int .i64 0] 31 (0, 0)) from hw6 ▸ blk_new w5 _ rfl)
  rw [hw6]
  clear hw6 y0 y1 y2 y3 y4 y5 y6 y7 n0 n1 n2 n3 n4 n5 n6 n7 hlt5
  have hw2 : w2.heap.size ≤ w6.heap.size := by have := SZ5.out; have := S3.out; have := b.size; omega
  have hw3 : w3.heap.size ≤ w6.heap.size := by have := SZ5.out; have := b.size; omega
  have O1 := Lib.hid (O1.out.below b (by have := SZ5.out; have := S3.out; omega))
  have O2 := Lib.hid (O2.out.below b (by have := SZ5.out; omega))
  have B6 := Lib.hid (below_then B5.out b)
  have KY := Lib.hid (blk_below b KY.out)
  have KN := Lib.hid (blk_below b KN.out)
  have K4 := Lib.hid (blk_below b K4.out)
  have K5 := Lib.hid (blk_below b K5.out)
  clear b
  with_reducible refine (CL.out _ _ _ _ _ _ _ _ _ _ _ _ _ _ _ _ _ _ _ _ _ _ _ _ _ _ _ _ _ _ _ _ _ _ _ _ KG.out).mono ?_
  rintro e w7 ⟨rfl, b⟩
  have HO1 := Lib.hid hw2
  have HO2 := Lib.hid hw3
  have O1 := Lib.hid (O1.out.below b hw2)
  have O2 := Lib.hid (O2.out.below b hw3)
  have H0 := Lib.hid b.size
  have B7 := Lib.hid (below_then B6.out b)
  have KY := Lib.hid (blk_below b KY.out)
  have KN := Lib.hid (blk_below b KN.out)
  have K4 := Lib.hid (blk_below b K4.out)
  have K5 := Lib.hid (blk_below b K5.out)
  clear b KG hw2 hw3
  go_upto_region 3 with (fail)
  have H := Lib.hid (heldC_two B7.out KY.out KN.out)
  refine run_region (ops := (opsOf Tryz.f24 3)) (S := fun w' => HeldC w w' ([(w.heap.size, 31, #[.int .i64 K1, .slice ai1 X1.length ci1, .slice ap1 0 cp1, .slice an1 0 cn1, .slice ac1 0 cc1, .slice al1 0 cl1, .int .i64 0, .int .i64 0]), (w.heap.size + 1, 31, #[.int .i64 K2, .slice ai2 X2.length ci2, .slice ap2 0 cp2, .slice an2 0 cn2, .slice ac2 0 cc2, .slice al2 0 cl2, .int .i64 0, .int .i64 0])])) [(0, true), (1, true), (3, true), (4, true), (2, false), (5, false), (6, false), (7, false)] (by kernel_rfl) (by kernel_rfl) (by kernel_rfl) (by kernel_rfl) (by kernel_rfl) (fun _ _ _ _ _ h => h) (heldC_drew H.out) ?_
  have H := Lib.hid (heldC_drew H.out)
  have hbd : Below w7.heap.size w7 w7.drew := below_drew' (Below.refl _ _)
  obtain ⟨w8, hw8⟩ : ∃ W, w7.drew = W := ⟨_, rfl⟩
  rw [hw8] at H hbd ⊢
  have O1 := Lib.hid (O1.out.below hbd (Nat.le_trans HO1.out H0.out))
  have O2 := Lib.hid (O2.out.below hbd (Nat.le_trans HO2.out H0.out))
  have K4 := Lib.hid (blk_below hbd K4.out)
  have K5 := Lib.hid (blk_below hbd K5.out)
  have H0 := Lib.hid (Nat.le_trans H0.out hbd.size)
  have K5' := Lib.hid K5.out
  clear hbd hw8 KY KN
  refine runC_vec (b := w.heap.size) (show opAt (opsOf Tryz.f24 3) 0 = some (some 15, .load 31 (.tmp 2), none) from by kernel_rfl) (by kernel_rfl) (by kernel_rfl) (by kernel_rfl) (List.Mem.head _) ?_
  refine run_mov (v := .int .i64 M) (show opAt (opsOf Tryz.f24 3) 1 = some (some 16, .move (.tmp 6), none) from by kernel_rfl) (by kernel_rfl) (by kernel_rfl) (by kernel_rfl) ?_
  refine runC_vec (b := w.heap.size + 1) (show opAt (opsOf Tryz.f24 3) 3 = some (some 18, .load 31 (.tmp 3), none) from by kernel_rfl) (by kernel_rfl) (by kernel_rfl) (by kernel_rfl) (List.Mem.tail _ (List.Mem.head _)) ?_
  refine run_mov (v := .int .i64 M) (show opAt (opsOf Tryz.f24 3) 4 = some (some 19, .move (.tmp 6), none) from by kernel_rfl) (by kernel_rfl) (by kernel_rfl) (by kernel_rfl) ?_
  refine run_call (args := [.agg #[.int .i64 K1, .slice ai1 X1.length ci1, .slice ap1 0 cp1, .slice an1 0 cn1, .slice ac1 0 cc1, .slice al1 0 cl1, .int .i64 0, .int .i64 0], .int .i64 M]) (show opAt (opsOf Tryz.f24 3) 2 = some (some 17, .call { callee := .value (.func 45), args := [(.tmp 15), (.tmp 16)].toArray, argTypes := [31, 3].toArray }, none) from by kernel_rfl) (by kernel_rfl) (by kernel_rfl) (by kernel_rfl) (by kernel_rfl) ?_
  refine (CC1.out _ _ (O1.out.vat (Nat.le_trans HO1.out H0.out)) H.out.1).mono ?_
  rintro en rw1 ⟨z1, rfl, ho, hb⟩
  refine ⟨_, rfl, heldC_call H.out hb, ?_⟩
  obtain ⟨dd1, bi1, di1, bp1, dp1, bn1, dn1, bc1, dc1, bl1, dl1, ed1, rfl, -⟩ := vecAt_open (show VecAt 0 rw1.heap.size rw1 1 (.mk M L1 [] [] [] [] 0 0) z1 from ho.vat (Nat.le_refl _))
  have H := Lib.hid (heldC_call H.out hb)
  have T1 := Lib.hid hb.size
  have O2 := Lib.hid (O2.out.below hb (Nat.le_trans HO2.out H0.out))
  have H0 := Lib.hid (Nat.le_trans H0.out hb.size)
  have K4 := Lib.hid (blk_below hb K4.out)
  have K5 := Lib.hid (blk_below hb K5.out)
  have P1 := Lib.hid (show Own 1 (.mk M L1 [] [] [] [] 0 0) (.agg #[.int .i64 M, .slice bi1 L1.length di1, .slice bp1 0 dp1, .slice bn1 0 dn1, .slice bc1 0 dc1, .slice bl1 0 dl1, .int .i64 0, .int .i64 0]) _ _ rw1 from ho)
  clear ho hb ed1
  refine run_call (args := [.agg #[.int .i64 K2, .slice ai2 X2.length ci2, .slice ap2 0 cp2, .slice an2 0 cn2, .slice ac2 0 cc2, .slice al2 0 cl2, .int .i64 0, .int .i64 0], .int .i64 M]) (show opAt (opsOf Tryz.f24 3) 5 = some (some 20, .call { callee := .value (.func 45), args := [(.tmp 18), (.tmp 19)].toArray, argTypes := [31, 3].toArray }, none) from by kernel_rfl) (by kernel_rfl) (by kernel_rfl) (by kernel_rfl) (by kernel_rfl) ?_
  refine (CC2.out _ _ (O2.out.vat (Nat.le_trans HO2.out H0.out)) H.out.1).mono ?_
  rintro en rw2 ⟨z2, rfl, ho, hb⟩
  refine ⟨_, rfl, heldC_call H.out hb, ?_⟩
  obtain ⟨dd2, bi2, di2, bp2, dp2, bn2, dn2, bc2, dc2, bl2, dl2, ed2, rfl, -⟩ := vecAt_open (show VecAt 0 rw2.heap.size rw2 1 (.mk M L2 [] [] [] [] 0 0) z2 from ho.vat (Nat.le_refl _))
  have H := Lib.hid (heldC_call H.out hb)
  have T2 := Lib.hid hb.size
  have P1 := Lib.hid (P1.out.below hb (Nat.le_refl _))
  have K4 := Lib.hid (blk_below hb K4.out)
  have K5 := Lib.hid (blk_below hb K5.out)
  have P2 := Lib.hid (show Own 1 (.mk M L2 [] [] [] [] 0 0) (.agg #[.int .i64 M, .slice bi2 L2.length di2, .slice bp2 0 dp2, .slice bn2 0 dn2, .slice bc2 0 dc2, .slice bl2 0 dl2, .int .i64 0, .int .i64 0]) _ _ rw2 from ho)
  clear ho hb ed2
  refine run_store (w' := World.setRow _ (w.heap.size + 1 + 1) #[.int .i64 M, .slice bi1 L1.length di1, .slice bp1 0 dp1, .slice bn1 0 dn1, .slice bc1 0 dc1, .slice bl1 0 dl1, .int .i64 0, .int .i64 0]) (show opAt (opsOf Tryz.f24 3) 6 = some (none, .store 31 (.tmp 4) (.tmp 17), none) from by kernel_rfl) (by kernel_rfl) (by kernel_rfl) (by kernel_rfl) (store_vec8 K4.out (by simp [Value.oneCell'])) (⟨below_row H.out.1 (by omega) _, fun q hq => row_old (H.out.2 q hq) (by rcases List.mem_cons.1 hq with rfl | hq; (simp only; omega); obtain rfl := List.mem_singleton.1 hq; simp only; omega)⟩) ?_
  refine run_last (by kernel_rfl) (show opAt (opsOf Tryz.f24 3) 7 = some (none, .store 31 (.tmp 5) (.tmp 20), none) from by kernel_rfl) (by kernel_rfl) (by kernel_rfl) (by kernel_rfl) (store_vec8 (c0 := .int .i64 M) (c1 := .slice bi2 L2.length di2) (c2 := .slice bp2 0 dp2) (c3 := .slice bn2 0 dn2) (c4 := .slice bc2 0 dc2) (c5 := .slice bl2 0 dl2) (c6 := .int .i64 0) (c7 := .int .i64 0) (row_old K5.out (by omega)) (by simp [Value.oneCell'])) ?_
  refine run_done ?_
  simp only [putAll, Act.put, List.setIfInBounds_toArray, List.set_cons_zero, List.set_cons_succ]
  obtain ⟨w9, hw9⟩ : ∃ W, (rw2.setRow (w.heap.size + 1 + 1) #[.int .i64 M, .slice bi1 L1.length di1, .slice bp1 0 dp1, .slice bn1 0 dn1, .slice bc1 0 dc1, .slice bl1 0 dl1, .int .i64 0, .int .i64 0]).setRow (w.heap.size + 1 + 1 + 1) #[.int .i64 M, .slice bi2 L2.length di2, .slice bp2 0 dp2, .slice bn2 0 dn2, .slice bc2 0 dc2, .slice bl2 0 dl2, .int .i64 0, .int .i64 0] = W := ⟨_, rfl⟩
  have hz : w9.heap.size = rw2.heap.size := by rw [← hw9]; simp
  have hl4 : w.heap.size + 1 + 1 + 1 + 1 ≤ w8.heap.size := (Array.getElem?_eq_some_iff.1 K5'.out).1
  have Q1 := Lib.hid (show Own 1 (.mk M L1 [] [] [] [] 0 0) (.agg #[.int .i64 M, .slice bi1 L1.length di1, .slice bp1 0 dp1, .slice bn1 0 dn1, .slice bc1 0 dc1, .slice bl1 0 dl1, .int .i64 0, .int .i64 0]) w8.heap.size rw1.heap.size w9 from hw9 ▸ (P1.out.row (by omega)).row (by omega))
  have Q2 := Lib.hid (show Own 1 (.mk M L2 [] [] [] [] 0 0) (.agg #[.int .i64 M, .slice bi2 L2.length di2, .slice bp2 0 dp2, .slice bn2 0 dn2, .slice bc2 0 dc2, .slice bl2 0 dl2, .int .i64 0, .int .i64 0]) rw1.heap.size rw2.heap.size w9 from hw9 ▸ (P2.out.row (by have := T1.out; omega)).row (by have := T1.out; omega))
  have B9 := Lib.hid (show Below w.heap.size w w9 from hw9 ▸ below_row (below_row H.out.1 (by omega) _) (by omega) _)
  have K4 := Lib.hid (show w9.heap[w.heap.size + 1 + 1]? = some (.cells #[.int .i64 M, .slice bi1 L1.length di1, .slice bp1 0 dp1, .slice bn1 0 dn1, .slice bc1 0 dc1, .slice bl1 0 dl1, .int .i64 0, .int .i64 0] 31 (0, 0)) from hw9 ▸ row_old (row_set K4.out) (by simp))
  have K5 := Lib.hid (show w9.heap[w.heap.size + 1 + 1 + 1]? = some (.cells #[.int .i64 M, .slice bi2 L2.length di2, .slice bp2 0 dp2, .slice bn2 0 dn2, .slice bc2 0 dc2, .slice bl2 0 dl2, .int .i64 0, .int .i64 0] 31 (0, 0)) from hw9 ▸ row_set (row_old K5.out (by simp)))
  have hw8' : w.heap.size ≤ w8.heap.size := by omega
  have hr1 : rw1.heap.size ≤ w9.heap.size := by have := T2.out; omega
  have hr0 : w.heap.size ≤ rw1.heap.size := by have := T1.out; omega
  have V1 := Lib.hid (Q1.out.wide hw8' hr1)
  have V2 := Lib.hid (Q2.out.wide hr0 (Nat.le_of_eq hz.symm))
  rw [hw9]
  clear hw9 hz hl4 hw8' hr1 hr0 H Q1 Q2 O1 O2 P1 P2
  go_wp2
  exact vec_ret2 rfl rfl rfl rfl K4.out K5.out ⟨_, _, rfl, V1.out, V2.out, B9.out⟩
end Go.Proofs.YtikgcogiiohahaaGreatDoor

/- MatchIn of the program. -/
namespace Go.Proofs.YtikgcogiiohahaaGreatDoor
open Go.RowKit
set_option maxRecDepth 100000
set_option linter.unusedVariables false

set_option maxHeartbeats 16000000 in
theorem implMatch (d0 d1 : Nat) (v t : Vec) (vv vt : Value) (lo hi : Nat) (w : World) (h0 : VecAt lo hi w d0 v vv) (h1 : VecAt lo hi w d1 t vt) (hhi : hi ≤ w.heap.size) (hsm0 : Small d0 v) (hsm1 : Small d1 t) (tab : Lib.TabIs Tryz.prog w "internal/strconv.uint64pow10" .u64 Lib.pow10Tab) :
    Calls Tryz.prog 7 #[vv, vt] w (ResVS 1 (matV v t) (matS v t) w) := by
  have T2 := Lib.hid (fun (ov : AtmOk (kindV v) (itemsV v) (levV v)) (ot : AtmOk (kindV t) (itemsV t) (levV t)) (W : World) (hb : Below w.heap.size w W) => implPlainTwo d0 d1 v t vv vt lo hi W (h0.below hb hhi) (h1.below hb hhi) (Nat.le_trans hhi hb.size) ov ot (tab_below tab hb))
  have HA0 := Lib.hid (fun (w1 : World) (hb : Below w.heap.size w w1) => h0.below hb hhi)
  have HA1 := Lib.hid (fun (w1 : World) (hb : Below w.heap.size w w1) => h1.below hb hhi)
  obtain ⟨VV, hVV⟩ : ∃ V, v = V := ⟨_, rfl⟩
  obtain ⟨TT, hTT⟩ : ∃ V, t = V := ⟨_, rfl⟩
  obtain ⟨k0, items0, parts0, names0, cls0, lev0, code0, env0⟩ := v
  obtain ⟨d0', ai0, ci0, ap0, cp0, an0, cn0, ac0, cc0, al0, cl0, ed0, rfl, hI0, hN0, hC0, hL0, hP0⟩ := vecAt_open h0
  obtain ⟨k1, items1, parts1, names1, cls1, lev1, code1, env1⟩ := t
  obtain ⟨d1', ai1, ci1, ap1, cp1, an1, cn1, ac1, cc1, al1, cl1, ed1, rfl, hI1, hN1, hC1, hL1, hP1⟩ := vecAt_open h1
  have CA := Lib.hid (fun (w1 : World) (hb : Below w.heap.size w w1) (g : Nat) (hg : w1.heap[g]? = some (.cells #[.int .i64 k0, .slice ai0 items0.length ci0, .slice ap0 parts0.length cp0, .slice an0 names0.length cn0, .slice ac0 cls0.length cc0, .slice al0 lev0.length cl0, .int .i64 code0, .int .i64 env0, .int .i64 k1, .slice ai1 items1.length ci1, .slice ap1 parts1.length cp1, .slice an1 names1.length cn1, .slice ac1 cls1.length cc1, .slice al1 lev1.length cl1, .int .i64 code1, .int .i64 env1] 31 (0, 0))) => (by
    have q := implAtm2 d0 d1 _ _ k0 ai0 ap0 an0 ac0 al0 items0.length ci0 parts0.length cp0 names0.length cn0 cls0.length cc0 lev0.length cl0 code0 env0 k1 ai1 ap1 an1 ac1 al1 items1.length ci1 parts1.length cp1 names1.length cn1 cls1.length cc1 lev1.length cl1 code1 env1 g lo hi w1 (HA0.out w1 hb) (HA1.out w1 hb) (Nat.le_trans hhi hb.size) hsm0 hsm1 hg
    rw [hVV, hTT] at q
    exact q : Calls Tryz.prog 23 #[.slice (some ⟨g, 0, none⟩) 2 2] w1 (fun e w' => e = .returned (.string (matS VV TT)) ∧ Below w1.heap.size w1 w')))
  rw [hVV, hTT] at T2 ⊢
  have XY := Lib.hid (fun (h : matS VV TT = ⟨#[]⟩) => mat_yes h)
  have XN := Lib.hid (fun (h : ¬ matS VV TT = ⟨#[]⟩) => mat_no h)
  have OK := Lib.hid (fun (h : matS VV TT = ⟨#[]⟩) => (⟨atm_vec (mat_both h).1, atm_vec (mat_both h).2⟩ : AtmOk (kindV VV) (itemsV VV) (levV VV) ∧ AtmOk (kindV TT) (itemsV TT) (levV TT)))
  have E1 := Lib.hid (show ∀ j, (chP VV j).length = (itemsV VV).length from fun j => chP_len VV j)
  have E2 := Lib.hid (show ∀ j, (chP TT j).length = (itemsV TT).length from fun j => chP_len TT j)
  obtain ⟨RV, hRV⟩ : ∃ y, matV VV TT = y := ⟨_, rfl⟩
  obtain ⟨R, hR⟩ : ∃ y, matS VV TT = y := ⟨_, rfl⟩
  rw [hRV, hR] at XY XN ⊢
  rw [hR] at CA OK
  clear h0 h1 hsm0 hsm1 hI0 hN0 hC0 hL0 hP0 hI1 hN1 hC1 hL1 hP1 ed0 ed1 HA0 HA1 tab hVV hTT hhi hRV hR
  have hs1 : (w.alloc (.cells #[.int .i64 k0, .slice ai0 items0.length ci0, .slice ap0 parts0.length cp0, .slice an0 names0.length cn0, .slice ac0 cls0.length cc0, .slice al0 lev0.length cl0, .int .i64 code0, .int .i64 env0] 31)).heap.size = w.heap.size + 1 := by simp
  have hs2 : ((w.alloc (.cells #[.int .i64 k0, .slice ai0 items0.length ci0, .slice ap0 parts0.length cp0, .slice an0 names0.length cn0, .slice ac0 cls0.length cc0, .slice al0 lev0.length cl0, .int .i64 code0, .int .i64 env0] 31)).alloc (.cells #[.int .i64 k1, .slice ai1 items1.length ci1, .slice ap1 parts1.length cp1, .slice an1 names1.length cn1, .slice ac1 cls1.length cc1, .slice al1 lev1.length cl1, .int .i64 code1, .int .i64 env1] 31)).heap.size = w.heap.size + 1 + 1 := by simp
  obtain ⟨w1, hw1⟩ : ∃ W, ((w.alloc (.cells #[.int .i64 k0, .slice ai0 items0.length ci0, .slice ap0 parts0.length cp0, .slice an0 names0.length cn0, .slice ac0 cls0.length cc0, .slice al0 lev0.length cl0, .int .i64 code0, .int .i64 env0] 31)).alloc (.cells #[.int .i64 k1, .slice ai1 items1.length ci1, .slice ap1 parts1.length cp1, .slice an1 names1.length cn1, .slice ac1 cls1.length cc1, .slice al1 lev1.length cl1, .int .i64 code1, .int .i64 env1] 31)).alloc (.cells #[.int .i64 0, .slice none 0 0, .slice none 0 0, .slice none 0 0, .slice none 0 0, .slice none 0 0, .int .i64 0, .int .i64 0] 31) = W := ⟨_, rfl⟩
  have B := Lib.hid (show Below w.heap.size w w1 from hw1 ▸ ((below1 w _).alloc (by simp) _).alloc (by simp; omega) _)
  have K0 := Lib.hid (show w1.heap[w.heap.size]? = some (.cells #[.int .i64 k0, .slice ai0 items0.length ci0, .slice ap0 parts0.length cp0, .slice an0 names0.length cn0, .slice ac0 cls0.length cc0, .slice al0 lev0.length cl0, .int .i64 code0, .int .i64 env0] 31 (0, 0)) from hw1 ▸ blk_old (blk_old (blk_new w _ rfl)))
  have K1 := Lib.hid (show w1.heap[w.heap.size + 1]? = some (.cells #[.int .i64 k1, .slice ai1 items1.length ci1, .slice ap1 parts1.length cp1, .slice an1 names1.length cn1, .slice ac1 cls1.length cc1, .slice al1 lev1.length cl1, .int .i64 code1, .int .i64 env1] 31 (0, 0)) from by rw [← hw1]; exact blk_old (blk_new _ _ hs1.symm))
  have KR := Lib.hid (show w1.heap[w.heap.size + 1 + 1]? = some (.cells #[.int .i64 0, .slice none 0 0, .slice none 0 0, .slice none 0 0, .slice none 0 0, .slice none 0 0, .int .i64 0, .int .i64 0] 31 (0, 0)) from by rw [← hw1]; exact blk_new _ _ hs2.symm)
  have EW := Lib.hid hw1
  clear hw1 hs1 hs2
  go_enter Tryz.func7, Tryz.ntmps7
  go_upto_region 1 with (fail)
  rw [EW.out]
  obtain ⟨a0, a1, a2, a3, a4, a5, a6, a7⟩ := vec8 K0.out
  obtain ⟨b0, b1, b2, b3, b4, b5, b6, b7⟩ := vec8 K1.out
  have hl0 := (Array.getElem?_eq_some_iff.1 KR.out).1
  clear EW
  go_wp2_with fail
  obtain ⟨w2, hw2⟩ : ∃ W, w1.alloc (.cells #[.int .i64 k0, .slice ai0 items0.length ci0, .slice ap0 parts0.length cp0, .slice an0 names0.length cn0, .slice ac0 cls0.length cc0, .slice al0 lev0.length cl0, .int .i64 code0, .int .i64 env0, .int .i64 k1, .slice ai1 items1.length ci1, .slice ap1 parts1.length cp1, .slice an1 names1.length cn1, .slice ac1 cls1.length cc1, .slice al1 lev1.length cl1, .int .i64 code1, .int .i64 env1] 31) = W := ⟨_, rfl⟩
  have b : Below w1.heap.size w1 w2 := hw2 ▸ below1 w1 _
  have KG := Lib.hid (show w2.heap[w1.heap.size]? = some (.cells #[.int .i64 k0, .slice ai0 items0.length ci0, .slice ap0 parts0.length cp0, .slice an0 names0.length cn0, .slice ac0 cls0.length cc0, .slice al0 lev0.length cl0, .int .i64 code0, .int .i64 env0, .int .i64 k1, .slice ai1 items1.length ci1, .slice ap1 parts1.length cp1, .slice an1 names1.length cn1, .slice ac1 cls1.length cc1, .slice al1 lev1.length cl1, .int .i64 code1, .int .i64 env1] 31 (0, 0)) from hw2 ▸ blk_new w1 _ rfl)
  rw [hw2]
  have B := Lib.hid (below_then B.out b)
  have K0 := Lib.hid (blk_below b K0.out)
  have K1 := Lib.hid (blk_below b K1.out)
  have KR := Lib.hid (blk_below b KR.out)
  clear b
  clear hw2 a0 a1 a2 a3 a4 a5 a6 a7 b0 b1 b2 b3 b4 b5 b6 b7 hl0
  with_reducible refine (CA.out _ B.out _ KG.out).mono ?_
  rintro e w3 ⟨rfl, b⟩
  have B := Lib.hid (below_then B.out b)
  have K0 := Lib.hid (blk_below b K0.out)
  have K1 := Lib.hid (blk_below b K1.out)
  have KR := Lib.hid (blk_below b KR.out)
  clear b
  clear KG CA
  by_cases hs : R = ⟨#[]⟩
  · have ok := OK.out hs
    have XV := Lib.hid (XY.out hs)
    have XS := Lib.hid hs
    have T2 := Lib.hid (T2.out ok.1 ok.2 _ B.out)
    have l1 := ok.1.len
    have l2 := ok.2.len
    have e1 := E1.out (chK VV TT)
    have e2 := E2.out (chK VV TT)
    rw [← e1] at XV l1
    rw [← e2] at l2
    obtain ⟨M, hM⟩ : ∃ m, chK VV TT = m := ⟨_, rfl⟩
    rw [hM] at XV T2 l1 l2
    obtain ⟨LX, hLX⟩ : ∃ l, chP VV M = l := ⟨_, rfl⟩
    obtain ⟨LY, hLY⟩ : ∃ l, chP TT M = l := ⟨_, rfl⟩
    rw [hLX] at XV T2 l1
    rw [hLY] at XV T2 l2
    obtain ⟨FZ, hFZ⟩ : ∃ f, matI LY LX = f := ⟨_, rfl⟩
    rw [hFZ] at XV
    have EZ := Lib.hid (fun k => congrFun hFZ k)
    rw [hs]
    clear hs ok e1 e2 hM hLX hLY hFZ XY XN OK E1 E2
    obtain ⟨a0, a1, a2, a3, a4, a5, a6, a7⟩ := vec8 K0.out
    obtain ⟨b0, b1, b2, b3, b4, b5, b6, b7⟩ := vec8 K1.out
    go_wp2_with fail
    with_reducible refine T2.out.mono ?_
    rintro e w6 ⟨ya, na, rfl, oy, on, b⟩
    obtain ⟨yi, yci, yp, ycp, yn, ycn, yc, ycc, yl, ycl, FX, rfl, hx⟩ := its_of_own (show Own 1 (vecOf M LX) ya w3.heap.size w6.heap.size w6 from oy) (Nat.le_refl _)
    obtain ⟨ti, tci, tp, tcp, tn, tcn, tc, tcc, tl, tcl, FY, rfl, hy⟩ := its_of_own (show Own 1 (vecOf M LY) na w3.heap.size w6.heap.size w6 from on) (Nat.le_refl _)
    have hl3 := (Array.getElem?_eq_some_iff.1 KR.out).1
    have hs6 := b.size
    have B := Lib.hid (below_then B.out b)
    have K0 := Lib.hid (blk_below b K0.out)
    have K1 := Lib.hid (blk_below b K1.out)
    have KR := Lib.hid (blk_below b KR.out)
    clear b
    have hx1 := hx.rg
    have hy1 := hy.rg
    have hlr := (Array.getElem?_eq_some_iff.1 KR.out).1
    clear a0 a1 a2 a3 a4 a5 a6 a7 b0 b1 b2 b3 b4 b5 b6 b7 oy on T2
    obtain ⟨f0, f1, f2, f3, f4, f5, f6, f7⟩ := free8 K0.out
    obtain ⟨e0, e1, e2, e3, e4, e5, e6, e7⟩ := free8 K1.out
    obtain ⟨a0, a1, a2, a3, a4, a5, a6, a7⟩ := vec8 K0.out
    obtain ⟨b0, b1, b2, b3, b4, b5, b6, b7⟩ := vec8 K1.out
    have HXI := Lib.hid hx
    have HYI := Lib.hid hy
    have HX1 := Lib.hid hx1
    have HY1 := Lib.hid hy1
    clear hx hy hx1 hy1
    go_upto_region 5 with (fail)
    obtain ⟨wq, hwq⟩ : ∃ W, ((((((((((((((((w6).setCell ⟨w.heap.size, 0, none⟩ (.int .i64 M)).setCell ⟨w.heap.size, 1, none⟩ (.slice yi LX.length yci)).setCell ⟨w.heap.size, 2, none⟩ (.slice yp 0 ycp)).setCell ⟨w.heap.size, 3, none⟩ (.slice yn 0 ycn)).setCell ⟨w.heap.size, 4, none⟩ (.slice yc 0 ycc)).setCell ⟨w.heap.size, 5, none⟩ (.slice yl 0 ycl)).setCell ⟨w.heap.size, 6, none⟩ (.int .i64 0)).setCell ⟨w.heap.size, 7, none⟩ (.int .i64 0)).setCell ⟨w.heap.size + 1, 0, none⟩ (.int .i64 M)).setCell ⟨w.heap.size + 1, 1, none⟩ (.slice ti LY.length tci)).setCell ⟨w.heap.size + 1, 2, none⟩ (.slice tp 0 tcp)).setCell ⟨w.heap.size + 1, 3, none⟩ (.slice tn 0 tcn)).setCell ⟨w.heap.size + 1, 4, none⟩ (.slice tc 0 tcc)).setCell ⟨w.heap.size + 1, 5, none⟩ (.slice tl 0 tcl)).setCell ⟨w.heap.size + 1, 6, none⟩ (.int .i64 0)).setCell ⟨w.heap.size + 1, 7, none⟩ (.int .i64 0) = W := ⟨_, rfl⟩
    have E5 : put8 (put8 (w6) (w.heap.size) 0 (.int .i64 M) (.slice yi LX.length yci) (.slice yp 0 ycp) (.slice yn 0 ycn) (.slice yc 0 ycc) (.slice yl 0 ycl) (.int .i64 0) (.int .i64 0)) (w.heap.size + 1) 0 (.int .i64 M) (.slice ti LY.length tci) (.slice tp 0 tcp) (.slice tn 0 tcn) (.slice tc 0 tcc) (.slice tl 0 tcl) (.int .i64 0) (.int .i64 0) = wq := hwq
    rw [hwq]
    have KV0 := Lib.hid (show wq.heap[w.heap.size]? = some (.cells #[.int .i64 M, .slice yi LX.length yci, .slice yp 0 ycp, .slice yn 0 ycn, .slice yc 0 ycc, .slice yl 0 ycl, .int .i64 0, .int .i64 0] 31 (0, 0)) from by rw [← E5, put8_other (by omega)]; exact put8_lit K0.out)
    have KT0 := Lib.hid (show wq.heap[w.heap.size + 1]? = some (.cells #[.int .i64 M, .slice ti LY.length tci, .slice tp 0 tcp, .slice tn 0 tcn, .slice tc 0 tcc, .slice tl 0 tcl, .int .i64 0, .int .i64 0] 31 (0, 0)) from by rw [← E5]; exact put8_lit (by rw [put8_other (by omega)]; exact K1.out))
    have KR0 := Lib.hid (show wq.heap[w.heap.size + 1 + 1]? = some (.cells #[.int .i64 0, .slice none 0 0, .slice none 0 0, .slice none 0 0, .slice none 0 0, .slice none 0 0, .int .i64 0, .int .i64 0] 31 (0, 0)) from by rw [← E5, put8_other (by omega), put8_other (by omega)]; exact KR.out)
    have BQ := Lib.hid (show Below w.heap.size w wq from by rw [← E5]; exact put8_below (put8_below B.out (by omega)) (by omega))
    have SQ : w6.heap.size = wq.heap.size := by rw [← E5, put8_size, put8_size]
    have OX := Lib.hid (show OwnIts wq yi LX FX from HXI.out.own.kept (fun g hg => by have := HX1.out g hg; rw [← E5, put8_other (by omega), put8_other (by omega)]))
    have OY := Lib.hid (show OwnIts wq ti LY FY from HYI.out.own.kept (fun g hg => by have := HY1.out g hg; rw [← E5, put8_other (by omega), put8_other (by omega)]))
    obtain ⟨w0, hw0⟩ : ∃ W, wq.alloc (.cells #[.int .i64 2, .slice none 0 0, .slice none 0 0, .slice none 0 0, .slice none 0 0, .slice none 0 0, .int .i64 0, .int .i64 0] 31) = W := ⟨_, rfl⟩
    have bq : Below wq.heap.size wq w0 := hw0 ▸ below1 wq _
    have B0 := Lib.hid (below_then BQ.out bq)
    have KB := Lib.hid (show w0.heap[wq.heap.size]? = some (.cells #[.int .i64 2, .slice none 0 0, .slice none 0 0, .slice none 0 0, .slice none 0 0, .slice none 0 0, .int .i64 0, .int .i64 0] 31 (0, 0)) from hw0 ▸ blk_new wq _ rfl)
    have KT0 := Lib.hid (blk_below bq KT0.out)
    have KR0 := Lib.hid (blk_below bq KR0.out)
    have KVq := KV0
    clear KV0
    have HX := Lib.hid (show ItemsAt w3.heap.size w6.heap.size w0 yi LX from (OX.out.kept (fun g hg => bq.block g (by have := HX1.out g hg; omega))).at_ HX1.out)
    have HY := Lib.hid (show ItemsAt w3.heap.size w6.heap.size w0 ti LY from (OY.out.kept (fun g hg => bq.block g (by have := HY1.out g hg; omega))).at_ HY1.out)
    have SQ0 := bq.size
    have L10 := Lib.hid (Array.getElem?_eq_some_iff.1 KR0.out).1
    have EW0 := Lib.hid hw0
    clear E5 hwq hw0 bq HXI HYI HX1 HY1 OX OY BQ B K0 K1 KR a0 a1 a2 a3 a4 a5 a6 a7 b0 b1 b2 b3 b4 b5 b6 b7 e0 e1 e2 e3 e4 e5 e6 e7 f0 f1 f2 f3 f4 f5 f6 f7
    have hlq : w.heap.size < wq.heap.size := (Array.getElem?_eq_some_iff.1 KVq.out).1
    obtain ⟨a0, a1, a2, a3, a4, a5, a6, a7⟩ := vec8 KVq.out
    go_wp2
    rw [EW0.out]
    clear a0 a1 a2 a3 a4 a5 a6 a7 KVq EW0 hlq
    obtain ⟨b, hb⟩ : ∃ b, wq.heap.size = b := ⟨_, rfl⟩
    rw [hb] at KB SQ SQ0 ⊢
    clear hb
    have GE := Lib.hid (show w.heap.size + 1 + 1 < b by omega)
    have KT0_ne := Lib.hid (show w.heap.size + 1 ≠ b by omega)
    have KR0_ne := Lib.hid (show w.heap.size + 1 + 1 ≠ b by omega)
    have ST := Lib.hid (show AppK w w0 w0 b 2 (itF (fun i => FZ i) 0) none 0 0 none 0 0 from AppK.start KB.out B0.out (by omega))
    have AI := Lib.hid (fun (k : Nat) (wr : World) (hk : k < LX.length) (hk' : ∀ g, g < w0.heap.size → g ≠ b → wr.heap[g]? = w0.heap[g]?) => HX.out.loopK (.inr (by omega)) (by omega) hk' hk)
    have CI := Lib.hid (fun (k : Nat) (hk : k < LX.length) (W : World) (hb : (∀ g, g < w0.heap.size → g ≠ b → W.heap[g]? = w0.heap[g]?) ∧ w0.heap.size ≤ W.heap.size) => ((implIndexIt LY (LX.getD k noI) ti tci w3.heap.size w6.heap.size W (HY.out.kept (fun g o h1 h2 => by simp only [World.cell?]; rw [hb.1 g (by omega) (by omega)])) (by omega) (by omega)).mono (fun e w' h => by
      obtain ⟨r, hf, he, hB⟩ := h
      have h1 := fst_bound hf
      exact ⟨r, ⟨h1.1, by omega⟩, by rw [← EZ.out k]; unfold matI; rw [← fst_eq hf], he, hB⟩) : Calls Tryz.prog 26 #[.slice ti LY.length tci, .agg #[.int .i64 (LX.getD k noI).n, .int .i64 (LX.getD k noI).d, .string (LX.getD k noI).t]] W (fun e w' => ∃ r, (-1 ≤ r ∧ r ≤ 1048576) ∧ posI r = FZ k ∧ e = .returned (.int .i64 r) ∧ Below W.heap.size W w')))
    have hl40 : LX.length ≤ 1048576 := by omega
    clear HY HX l1 l2 SQ SQ0 hl3 hs6 hlr
    go_loopw [28] (fun i wr => ∃ (k : Nat) (sa : Option Addr) (sn sc : Nat), k ≤ LX.length ∧ i = .int .i64 k ∧ AppK w w0 wr b 2 (itF (fun i => FZ i) k) sa sn sc none 0 0) (fun i _ => LX.length - (intOf i).toNat)
    case atStart => exact ⟨0, none, 0, 0, Nat.zero_le _, rfl, ST.out⟩
    case round =>
      obtain ⟨k, sa, sn, sc, hk, rfl, hap⟩ := hrel
      have AP := Lib.hid hap
      clear hap
      by_cases hlt : k < LX.length
      · obtain ⟨ba, off, rfl, hbB, c0, c1, c2⟩ := AI.out k wr hlt AP.out.kept
        have CK := Lib.hid (fun W hb => CI.out k hlt W hb)
        have NX := Lib.hid (itF_succ (fun i => FZ i) k)
        obtain ⟨z, hz⟩ : ∃ z : It, FZ k = z := ⟨_, rfl⟩
        rw [hz] at CK NX
        obtain ⟨x, hx⟩ : ∃ x : It, LX.getD k noI = x := ⟨_, rfl⟩
        rw [hx] at c0 c1 c2 CK
        have LN := Lib.hid (show (itF (fun i => FZ i) k).length ≤ 1048576 by rw [itF_len]; omega)
        have hbw : ba < wr.heap.size := Nat.lt_of_lt_of_le hbB AP.out.size

        have FAR := Lib.hid (fun (q : Nat × TypeId × Array Value) (hq : q ∈ ([(wr.heap.size, 45, #[.int .i64 x.n, .int .i64 x.d, .string x.t]), (w.heap.size + 1, 31, #[.int .i64 M, .slice ti LY.length tci, .slice tp 0 tcp, .slice tn 0 tcn, .slice tc 0 tcc, .slice tl 0 tcl, .int .i64 0, .int .i64 0]), (b, 31, #[.int .i64 2, .slice sa sn sc, .slice none 0 0, .slice none 0 0, .slice none 0 0, .slice none 0 0, .int .i64 0, .int .i64 0])] : List (Nat × TypeId × Array Value))) (j : Nat) (hj : (Value.slice sa sn sc).ownBlock = some j) => (by
          simp only [List.mem_cons, List.not_mem_nil, or_false] at hq
          rcases hq with rfl | rfl | rfl
          · exact AP.out.far hj (.inr (Nat.le_refl _))
          · exact AP.out.far hj (.inl (Array.getElem?_eq_some_iff.1 KT0.out).1)
          · exact AP.out.far hj (.inl AP.out.lt) : q.1 ≠ j))
        clear hx hz
        go_wp2
        obtain ⟨w5, hw5⟩ : ∃ W, wr.alloc (.cells #[.int .i64 x.n, .int .i64 x.d, .string x.t] 45) = W := ⟨_, rfl⟩
        have X1 := Lib.hid (show w5.heap[wr.heap.size]? = some (.cells #[.int .i64 x.n, .int .i64 x.d, .string x.t] 45 (0, 0)) from hw5 ▸ blk_new wr _ rfl)
        have AP := Lib.hid (show AppK w w0 w5 b 2 (itF (fun i => FZ i) k) sa sn sc none 0 0 from hw5 ▸ AP.out.keep (below1 wr _))
        rw [hw5]
        clear hw5
        have H := Lib.hid (show HeldC w w5 ([(wr.heap.size, 45, #[.int .i64 x.n, .int .i64 x.d, .string x.t]), (w.heap.size + 1, 31, #[.int .i64 M, .slice ti LY.length tci, .slice tp 0 tcp, .slice tn 0 tcn, .slice tc 0 tcc, .slice tl 0 tcl, .int .i64 0, .int .i64 0]), (b, 31, #[.int .i64 2, .slice sa sn sc, .slice none 0 0, .slice none 0 0, .slice none 0 0, .slice none 0 0, .int .i64 0, .int .i64 0])]) from ⟨AP.out.below, fun q hq => by
          simp only [List.mem_cons, List.not_mem_nil, or_false] at hq
          rcases hq with rfl | rfl | rfl
          · exact X1.out
          · exact AP.out.blk KT0.out KT0_ne.out
          · exact AP.out.vec⟩)
        refine run_region (ops := (opsOf Tryz.f7 9)) (S := fun w' => HeldC w w' ([(wr.heap.size, 45, #[.int .i64 x.n, .int .i64 x.d, .string x.t]), (w.heap.size + 1, 31, #[.int .i64 M, .slice ti LY.length tci, .slice tp 0 tcp, .slice tn 0 tcn, .slice tc 0 tcc, .slice tl 0 tcl, .int .i64 0, .int .i64 0]), (b, 31, #[.int .i64 2, .slice sa sn sc, .slice none 0 0, .slice none 0 0, .slice none 0 0, .slice none 0 0, .int .i64 0, .int .i64 0])])) [(0, true), (1, true), (2, true), (3, true), (4, true), (5, false), (6, false), (7, false), (8, false), (9, true), (10, false)] (by kernel_rfl) (by kernel_rfl) (by kernel_rfl) (by kernel_rfl) (by kernel_rfl) (fun _ _ _ _ _ h => h) (heldC_drew H.out) ?_
        have H := Lib.hid (heldC_drew H.out)
        have AP := Lib.hid (AP.out.keep (below_drew' (Below.refl _ _)))
        refine runC_partV (b := b) (by kernel_rfl) (show opAt (opsOf Tryz.f7 9) 0 = some (some 32, .fieldAddr 31 (.tmp 7) 1, none) from by kernel_rfl) (by kernel_rfl) (by kernel_rfl) (by kernel_rfl) ?_
        refine runC_cell (b := b) (j := 1) (v := .slice sa sn sc) load_its (show opAt (opsOf Tryz.f7 9) 1 = some (some 33, .load 28 (.tmp 32), none) from by kernel_rfl) (by kernel_rfl) (by kernel_rfl) (by kernel_rfl) (List.Mem.tail _ (List.Mem.tail _ (List.Mem.head _))) rfl ?_
        refine runC_partV (b := w.heap.size + 1) (by kernel_rfl) (show opAt (opsOf Tryz.f7 9) 2 = some (some 34, .fieldAddr 31 (.tmp 3) 1, none) from by kernel_rfl) (by kernel_rfl) (by kernel_rfl) (by kernel_rfl) ?_
        refine runC_cell (b := w.heap.size + 1) (j := 1) (v := .slice ti LY.length tci) load_its (show opAt (opsOf Tryz.f7 9) 3 = some (some 35, .load 28 (.tmp 34), none) from by kernel_rfl) (by kernel_rfl) (by kernel_rfl) (by kernel_rfl) (List.Mem.tail _ (List.Mem.head _)) rfl ?_
        refine runC_itm (b := wr.heap.size) (show opAt (opsOf Tryz.f7 9) 4 = some (some 36, .load 45 (.tmp 9), none) from by kernel_rfl) (by kernel_rfl) (by kernel_rfl) (by kernel_rfl) (List.Mem.head _) ?_
        refine run_call (args := [.slice ti LY.length tci, .agg #[.int .i64 x.n, .int .i64 x.d, .string x.t]]) (show opAt (opsOf Tryz.f7 9) 5 = some (some 37, .call { callee := .value (.func 26), args := [(.tmp 35), (.tmp 36)].toArray, argTypes := [28, 45].toArray }, none) from by kernel_rfl) (by kernel_rfl) (by kernel_rfl) (by kernel_rfl) (by kernel_rfl) ?_
        refine (CK.out _ ⟨AP.out.kept, AP.out.size⟩).mono ?_
        rintro en rw1 ⟨r, ⟨hr1, hr2⟩, hrz, rfl, hb⟩
        have CP := Lib.hid (fun W => (by have q := implPosItem r W hr1 hr2; rw [hrz] at q; exact q : Calls Tryz.prog 25 #[.int .i64 r] W fun e w' => e = .returned (.agg #[.int .i64 z.n, .int .i64 z.d, .string z.t]) ∧ Below W.heap.size W w'))
        clear hrz hr1 hr2
        refine ⟨_, rfl, heldC_call H.out hb, ?_⟩
        have H := Lib.hid (heldC_call H.out hb)
        have AP := Lib.hid (AP.out.keep hb)
        clear hb
        refine run_call (args := [.int .i64 r]) (show opAt (opsOf Tryz.f7 9) 6 = some (some 38, .call { callee := .value (.func 25), args := [(.tmp 37)].toArray, argTypes := [3].toArray }, none) from by kernel_rfl) (by kernel_rfl) (by kernel_rfl) (by kernel_rfl) (by kernel_rfl) ?_
        refine (CP.out _).mono ?_
        rintro en rw2 ⟨rfl, hb⟩
        refine ⟨_, rfl, heldC_call H.out hb, ?_⟩
        have H := Lib.hid (heldC_call H.out hb)
        have AP := Lib.hid (AP.out.keep hb)
        clear hb
        refine tail_item2 z (show opAt (opsOf Tryz.f7 9) 7 = some (some 39, .buildSlice 28 1 #[(0, (.tmp 38))], none) from by kernel_rfl) (by kernel_rfl) (by kernel_rfl) (show opAt (opsOf Tryz.f7 9) 8 = some (some 40, .call { callee := .builtin .append, args := [(.tmp 33), (.tmp 39)].toArray, argTypes := [28, 28].toArray }, none) from by kernel_rfl) (by kernel_rfl) (fun _ => by kernel_rfl) (show opAt (opsOf Tryz.f7 9) 9 = some (some 41, .fieldAddr 31 (.tmp 7) 1, none) from by kernel_rfl) (by kernel_rfl) (by kernel_rfl) (fun _ _ => by kernel_rfl) (show opAt (opsOf Tryz.f7 9) 10 = some (none, .store 28 (.tmp 41) (.tmp 40), none) from by kernel_rfl) (by kernel_rfl) (by kernel_rfl) H.out AP.out.row LN.out AP.out.size (Nat.le_trans AP.out.ge (Nat.le_of_lt AP.out.lt)) (List.Mem.tail _ (List.Mem.tail _ (List.Mem.head _))) rfl AP.out.lt AP.out.ge (fun q hq => FAR.out q hq) ?_
        rintro v' w2 ⟨sa, sn, sc, rfl⟩ hK hO hB hZ hR hG
        simp only [putAll, Act.put, List.setIfInBounds_toArray, List.set_cons_zero, List.set_cons_succ]
        have AN := Lib.hid (AP.out.next hK hO hB hZ hG)
        clear hK hO hB hR hG hZ H FAR LN
        go_wp2
        go_roundw
        case rel => exact ⟨k + 1, sa, sn, sc, by omega, by go_num, NX.out ▸ AN.out⟩
        case measure => simp [intOf]; omega
      · obtain rfl : k = LX.length := by omega
        have K1 := Lib.hid AP.out.vec
        have K0 := Lib.hid (AP.out.blk KR0.out KR0_ne.out)
        have FN := Lib.hid (AP.out.fin (names := []) (r := w.heap.size + 1 + 1) (.inl ⟨rfl, rfl⟩) List.nodup_nil (fun g hg => by cases hg) (Nat.zero_le _) (by have := AP.out.lt; have := L10.out; have := GE.out; omega))
        obtain ⟨k0, k1, k2, k3, k4, k5, k6, k7⟩ := vec8 K1.out
        obtain ⟨z0, z1, z2, z3, z4, z5, z6, z7⟩ := vec8 K0.out
        obtain ⟨f0, f1, f2, f3, f4, f5, f6, f7⟩ := free8 K0.out
        go_wp2
        rw [XV.out, XS.out]
        exact vec_endS rfl rfl rfl rfl K0.out FN.out.withS
  · have XV := Lib.hid (XN.out hs)
    have hRb : (R.toList == []) = false := by have h := str_not hs; rw [ByteArray.toList_eq ⟨#[]⟩] at h; exact h
    clear hs XN XY OK T2 E1 E2
    have K0 := Lib.hid KR.out
    obtain ⟨z0, z1, z2, z3, z4, z5, z6, z7⟩ := vec8 K0.out
    obtain ⟨f0, f1, f2, f3, f4, f5, f6, f7⟩ := free8 K0.out
    go_wp2
    rw [XV.out]
    exact vec_endS rfl rfl rfl rfl K0.out (zeroS _ w _ (put8_below B.out (by omega)))
end Go.Proofs.YtikgcogiiohahaaGreatDoor
