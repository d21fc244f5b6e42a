/- Elements converted to a later kind, and taken plain, as data. -/
import Derived.Test.YtjpdnabfpiengaaDoorRows
import Derived.Test.YtjpdnabfpiengaaDoorMg1
import Derived.Test.YtjpdnabfpiengaaDoorNumFmt
import Derived.Test.YtjpdnabfpiengaaDoorMg2
import Derived.WalkKit
import Derived.OwnWalk
import Derived.Deep.DeepCutAuto
import Derived.Lib.Hide
namespace Go.Proofs.YtjpdnabfpiengaaDoor
open Go.RowKit
set_option maxRecDepth 100000
set_option linter.unusedVariables false

/-- The two texts of logical values. -/
def falB : ByteArray := ⟨#[70, 65, 76, 83, 69]⟩
def truB : ByteArray := ⟨#[84, 82, 85, 69]⟩
/-- An element of the kind k as one of the kind j. -/
def cnvI (k j : Int) (x : It) : It := if k = j ∨ j ≠ 3 ∨ x.d = 0 then x else if k = 1 then txE (if x.n = 0 then falB else truB) else txE (txI x)
theorem cnv_same {k j : Int} {x : It} (h : k = j ∨ j ≠ 3 ∨ x.d = 0) : cnvI k j x = x := by unfold cnvI; rw [if_pos h]
theorem cnv_log {x : It} (h : x.d ≠ 0) : cnvI 1 3 x = txE (if x.n = 0 then falB else truB) := by unfold cnvI; rw [if_neg (by omega), if_pos rfl]
theorem cnv_num {x : It} (h : x.d ≠ 0) : cnvI 2 3 x = txE (txI x) := by unfold cnvI; rw [if_neg (by omega), if_neg (by decide)]
theorem txI_size {x : It} (h : isN x = true) : (txI x).size ≤ 43 := by
  have k := isN_iff.1 h
  have h1 := itoa_small x.n (by omega) (by omega)
  have h2 := itoa_small x.d (by omega) (by omega)
  by_cases hd : x.d = 1
  · rw [tx_one h hd]; omega
  · rw [tx_two h hd, ByteArray.size_append, ByteArray.size_append]
    have h3 : (⟨#[47]⟩ : ByteArray).size = 1 := rfl
    omega
theorem itOk_size {k : Int} {x : It} (h : ItOk k x) : InB x ∧ x.t.size ≤ 60 := by
  rcases h with rfl | ⟨_, h1, h2, h3, h4⟩ | ⟨_, h1⟩ | ⟨_, h1, h2, h3⟩
  · exact ⟨⟨by decide, by decide, Nat.zero_le _⟩, Nat.zero_le _⟩
  · exact ⟨⟨by omega, by omega, by unfold maxLen; omega⟩, by omega⟩
  · have k := isN_iff.1 h1
    have : x.t.size = 0 := by rw [k.1]; rfl
    exact ⟨⟨by omega, by omega, by unfold maxLen; omega⟩, by omega⟩
  · exact ⟨⟨by omega, by omega, by unfold maxLen; omega⟩, by omega⟩
theorem txE_ok {s : ByteArray} (h : s.size ≤ 60) : ItOk 3 (txE s) := .inr (.inr (.inr ⟨rfl, rfl, rfl, h⟩))
theorem cnv_ok {k j : Int} {x : It} (h : ItOk k x) (hk : k ≤ j) (hj : j ≤ 3) : ItOk j (cnvI k j x) := by
  by_cases e : k = j
  · rw [cnv_same (.inl e), ← e]; exact h
  rcases h with rfl | ⟨rfl, h1, h2, h3, h4⟩ | ⟨rfl, h1⟩ | ⟨rfl, h1, h2, h3⟩
  · rw [cnv_same (.inr (.inr rfl))]; exact .inl rfl
  · by_cases e3 : j = 3
    · subst e3
      rw [cnv_log (by omega)]
      refine txE_ok ?_
      split <;> decide
    · rw [cnv_same (.inr (.inl e3))]
      refine .inr (.inr (.inl ⟨by omega, isN_iff.2 ⟨empty_of_size h4, by omega, by omega, by omega, by omega, ?_⟩⟩))
      rw [h1]; simp
  · have e3 : j = 3 := by omega
    subst e3
    have k := isN_iff.1 h1
    rw [cnv_num (by omega)]
    have := txI_size h1
    exact txE_ok (by omega)
  · omega
/-- An element taken plain: a factor's is its level. -/
def plnI (levels : List ByteArray) (x : It) : It := if x.d = 0 ∨ levels.length = 0 then x else txE (levels.getD (x.n - 1).toNat ⟨#[]⟩)
def plnK (k : Int) (levels : List ByteArray) : Int := if levels.length = 0 then k else 3
theorem pln_same {levels : List ByteArray} {x : It} (h : x.d = 0 ∨ levels.length = 0) : plnI levels x = x := by unfold plnI; rw [if_pos h]
theorem pln_lev {levels : List ByteArray} {x : It} (h : ¬ (x.d = 0 ∨ levels.length = 0)) : plnI levels x = txE (levels.getD (x.n - 1).toNat ⟨#[]⟩) := by unfold plnI; rw [if_neg h]
theorem plnK_no {k : Int} {levels : List ByteArray} (h : levels.length = 0) : plnK k levels = k := by unfold plnK; rw [if_pos h]
theorem plnK_yes {k : Int} {levels : List ByteArray} (h : ¬ levels.length = 0) : plnK k levels = 3 := by unfold plnK; rw [if_neg h]
theorem pln_ok {k : Int} {levels : List ByteArray} {x : It} (h : ItOk k x) (hl : LevOk levels.length x) (hs : LabelsOk (txtS levels) levels.length 20) : ItOk (plnK k levels) (plnI levels x) := by
  by_cases e : levels.length = 0
  · rw [plnK_no e, pln_same (.inr e)]; exact h
  · rw [plnK_yes e]
    by_cases hd : x.d = 0
    · rw [pln_same (.inl hd)]
      rcases h with rfl | ⟨_, h1, _⟩ | ⟨_, h1⟩ | ⟨_, _, h1, _⟩
      · exact .inl rfl
      · omega
      · have := isN_iff.1 h1; omega
      · omega
    · rw [pln_lev (by omega)]
      refine txE_ok ?_
      rcases hl with h0 | h0 | ⟨h0, h1, h2⟩
      · omega
      · omega
      · have := (hs.2 (x.n - 1).toNat (by omega)).2.1
        exact this
/-- The number of bytes of a text. -/
def bytI (x : It) : It := if x.d = 0 then x else ⟨(x.t.size : Int), 1, ⟨#[]⟩⟩
theorem bytI_no {x : It} (h : x.d = 0) : bytI x = x := by unfold bytI; rw [if_pos h]
theorem bytI_yes {x : It} (h : ¬ x.d = 0) : bytI x = ⟨(x.t.size : Int), 1, ⟨#[]⟩⟩ := by unfold bytI; rw [if_neg h]
theorem bytI_in {x : It} (h : ItOk 3 x) : InB (bytI x) ∧ (bytI x).t.size ≤ 1048576 := by
  have k := itOk_size h
  by_cases hd : x.d = 0
  · rw [bytI_no hd]; exact ⟨k.1, by omega⟩
  · rw [bytI_yes hd]; exact ⟨⟨by constructor <;> simp only <;> omega, ⟨show (-9223372036854775808 : Int) ≤ 1 by decide, show (1 : Int) ≤ 9223372036854775807 by decide⟩, Nat.zero_le _⟩, Nat.zero_le _⟩
/-- The elements of a vector, plain. -/
def plnL (levels : List ByteArray) (items : List It) : List It := itF (fun i => plnI levels (items.getD i noI)) items.length
theorem plnL_len (levels : List ByteArray) (items : List It) : (plnL levels items).length = items.length := itF_len _ _
theorem plnL_at {levels : List ByteArray} {items : List It} {i : Nat} (h : i < items.length) : (plnL levels items).getD i noI = plnI levels (items.getD i noI) := itF_getD _ h
def cnvL (k j : Int) (l : List It) : List It := itF (fun i => cnvI k j (l.getD i noI)) l.length
theorem cnvL_len (k j : Int) (l : List It) : (cnvL k j l).length = l.length := itF_len _ _
theorem cnvL_at {k j : Int} {l : List It} {i : Nat} (h : i < l.length) : (cnvL k j l).getD i noI = cnvI k j (l.getD i noI) := itF_getD _ h
/-- What a vector that is atomic or NULL is known to have. -/
structure AtmOk (kk : Int) (items : List It) (levels : List ByteArray) : Prop where
  kind : 0 ≤ kk ∧ kk ≤ 3
  len : items.length ≤ 40
  llen : levels.length ≤ 20
  labs : LabelsOk (txtS levels) levels.length 20
  its : ∀ i, i < items.length → ItOk kk (items.getD i noI) ∧ LevOk levels.length (items.getD i noI)
  null : kk = 0 → items.length = 0
  two : kk ≠ 2 → levels.length = 0
theorem atm_ok {kk : Int} {items : List It} {parts : List Vec} {names cls levels : List ByteArray} {code env : Int} (h : ValidV (.mk kk items parts names cls levels code env)) (hk : kk ≤ 3) : AtmOk kk items levels := by
  have hf : FlatOk kk items parts.length names cls levels code env := h.1.flat
  have h1 := hf.h_len
  unfold lenV at h1
  rw [if_neg (by omega)] at h1
  exact ⟨⟨hf.h_kind.1, hk⟩, by omega, hf.h_levels.1, hf.h_levels, hf.h_items, fun e => by have := (hf.h_null e).1; omega, hf.h_noLevels⟩
theorem AtmOk.pk {kk : Int} {items : List It} {levels : List ByteArray} (h : AtmOk kk items levels) : 0 ≤ plnK kk levels ∧ plnK kk levels ≤ 3 ∧ kk ≤ plnK kk levels := by
  have := h.kind
  unfold plnK; split <;> omega
theorem AtmOk.pln {kk : Int} {items : List It} {levels : List ByteArray} (h : AtmOk kk items levels) {i : Nat} (hi : i < items.length) : ItOk (plnK kk levels) ((plnL levels items).getD i noI) := by
  rw [plnL_at hi]
  exact pln_ok (h.its i hi).1 (h.its i hi).2 h.labs
theorem AtmOk.cnv {kk j : Int} {items : List It} {levels : List ByteArray} (h : AtmOk kk items levels) (hj : plnK kk levels ≤ j) (hj3 : j ≤ 3) {i : Nat} (hi : i < items.length) : ItOk j ((cnvL (plnK kk levels) j (plnL levels items)).getD i noI) := by
  rw [cnvL_at (by rw [plnL_len]; exact hi)]
  exact cnv_ok (h.pln hi) hj hj3
theorem AtmOk.nolev {kk : Int} {items : List It} {levels : List ByteArray} (h : AtmOk kk items levels) : AtmOk (plnK kk levels) (plnL levels items) [] :=
  ⟨by have := h.pk; omega, by rw [plnL_len]; exact h.len, Nat.zero_le _, ⟨Nat.zero_le _, fun i hi => absurd hi (Nat.not_lt_zero _)⟩, fun i hi => ⟨h.pln (by rwa [plnL_len] at hi), .inl rfl⟩, fun e => by
    rw [plnL_len]
    by_cases hl : levels.length = 0
    · rw [plnK_no hl] at e; exact h.null e
    · rw [plnK_yes hl] at e; omega, fun _ => rfl⟩
end Go.Proofs.YtjpdnabfpiengaaDoor

/- Elements converted to a later kind and taken plain: both sides. -/
namespace Go.Proofs.YtjpdnabfpiengaaDoor
open Go.RowKit
set_option maxRecDepth 100000
set_option linter.unusedVariables false

theorem implFmtLog (n d : Int) (t : ByteArray) (w : World) :
    Calls Tryd.prog 99 #[.agg #[.int .i64 n, .int .i64 d, .string t]] w fun e w' => e = .returned (.string (if n = 0 then falB else truB)) ∧ Below w.heap.size w w' := by
  by_cases h : n = 0
  · subst h
    go_enter Tryd.func99, Tryd.ntmps99
    go_wp2
    go_ret
    exact ⟨rfl, below1 w _⟩
  · have hb : (n == 0) = false := by simp [h]
    rw [if_neg h]
    go_enter Tryd.func99, Tryd.ntmps99
    go_wp2
    go_ret
    exact ⟨rfl, below1 w _⟩
set_option maxHeartbeats 4000000 in
theorem implCnvS (k j n d : Int) (t : ByteArray) (w : World) (h0 : 0 ≤ k) (hk : k ≤ j) (hj : j ≤ 3) (hs : k = j ∨ j ≠ 3) :
    Calls Tryd.prog 81 #[.agg #[.int .i64 n, .int .i64 d, .string t], .int .i64 k, .int .i64 j] w (fun e w' => e = .returned (.agg #[.int .i64 n, .int .i64 d, .string t]) ∧ Below w.heap.size w w') := by
  have hsz : (w.alloc (.cells #[.int .i64 n, .int .i64 d, .string t] 56)).heap.size = w.heap.size + 1 := by simp
  rcases (show (j = 3 ∧ k = 3) ∨ (j = 2 ∧ k = 2) ∨ (j = 2 ∧ k = 1) ∨ (j = 2 ∧ k = 0) ∨ (j = 1 ∧ k = 1) ∨ (j = 1 ∧ k = 0) ∨ (j = 0 ∧ k = 0) by omega) with ⟨rfl, rfl⟩ | ⟨rfl, rfl⟩ | ⟨rfl, rfl⟩ | ⟨rfl, rfl⟩ | ⟨rfl, rfl⟩ | ⟨rfl, rfl⟩ | ⟨rfl, rfl⟩
  all_goals
    clear h0 hk hj hs
    go_enter Tryd.func81, Tryd.ntmps81
    go_wp2
    first | exact item_ret0 rfl rfl rfl (blk_new _ _ hsz.symm) ⟨rfl, below2 w _ _⟩ | exact item_ret0 rfl rfl rfl (blk_new _ _ rfl) ⟨rfl, below2 w _ _⟩ | exact item_ret rfl rfl rfl (blk_new _ _ hsz.symm) ⟨rfl, below_three (below2 w _ _) (by simp) _ _ _⟩
set_option maxHeartbeats 4000000 in
theorem implCnv0 (k : Int) (w : World) (h0 : 0 ≤ k) (hk : k ≤ 2) :
    Calls Tryd.prog 81 #[.agg #[.int .i64 0, .int .i64 0, .string ⟨#[]⟩], .int .i64 k, .int .i64 3] w (fun e w' => e = .returned (.agg #[.int .i64 0, .int .i64 0, .string ⟨#[]⟩]) ∧ Below w.heap.size w w') := by
  have hsz : (w.alloc (.cells #[.int .i64 0, .int .i64 0, .string ⟨#[]⟩] 56)).heap.size = w.heap.size + 1 := by simp
  rcases (show k = 0 ∨ k = 1 ∨ k = 2 by omega) with rfl | rfl | rfl
  all_goals
    clear h0 hk
    go_enter Tryd.func81, Tryd.ntmps81
    go_wp2
    first | exact item_ret0 rfl rfl rfl (blk_new _ _ hsz.symm) ⟨rfl, below2 w _ _⟩ | exact item_ret0 rfl rfl rfl (blk_new _ _ rfl) ⟨rfl, below2 w _ _⟩ | exact item_ret rfl rfl rfl (blk_new _ _ hsz.symm) ⟨rfl, below_three (below2 w _ _) (by simp) _ _ _⟩
set_option maxHeartbeats 4000000 in
theorem implCnvL (n : Int) (w : World) (hn : n = 0 ∨ n = 1) :
    Calls Tryd.prog 81 #[.agg #[.int .i64 n, .int .i64 1, .string ⟨#[]⟩], .int .i64 1, .int .i64 3] w (fun e w' => e = .returned (.agg #[.int .i64 0, .int .i64 1, .string (if n = 0 then falB else truB)]) ∧ Below w.heap.size w w') := by
  obtain ⟨V, hV⟩ : ∃ V, (if n = 0 then falB else truB) = V := ⟨_, rfl⟩
  have CT := Lib.hid (fun (W : World) (_ : Below w.heap.size w W) => implTxtItem V W)
  have CF := Lib.hid (fun (W : World) (_ : Below w.heap.size w W) => (by have h := implFmtLog n 1 ⟨#[]⟩ W; rw [hV] at h; exact h : Calls Tryd.prog 99 #[.agg #[.int .i64 n, .int .i64 1, .string ⟨#[]⟩]] W fun e w' => e = .returned (.string V) ∧ Below W.heap.size W w'))
  rw [hV]
  clear hV hn
  have hsz : (w.alloc (.cells #[.int .i64 n, .int .i64 1, .string ⟨#[]⟩] 56)).heap.size = w.heap.size + 1 := by simp
  obtain ⟨w1, hw1⟩ : ∃ W, (w.alloc (.cells #[.int .i64 n, .int .i64 1, .string ⟨#[]⟩] 56)).alloc (.cells #[.int .i64 0, .int .i64 0, .string ⟨#[]⟩] 56) = W := ⟨_, rfl⟩
  have B1 := Lib.hid (show Below w.heap.size w w1 from hw1 ▸ below2 w _ _)
  have KX := Lib.hid (show w1.heap[w.heap.size]? = some (.cells #[.int .i64 n, .int .i64 1, .string ⟨#[]⟩] 56 (0, 0)) from hw1 ▸ blk_old (blk_new w _ rfl))
  have KZ := Lib.hid (show w1.heap[w.heap.size + 1]? = some (.cells #[.int .i64 0, .int .i64 0, .string ⟨#[]⟩] 56 (0, 0)) from by rw [← hw1]; exact blk_new _ _ hsz.symm)
  have EW := Lib.hid hw1
  clear hw1 hsz
  go_enter Tryd.func81, Tryd.ntmps81
  go_wp2_with fail
  rw [EW.out]
  refine (CF.out w1 B1.out).mono ?_
  rintro e w2 ⟨rfl, b⟩
  have B2 := Lib.hid (below_then B1.out b)
  have KX2 := Lib.hid (blk_below b KX.out)
  have KZ2 := Lib.hid (blk_below b KZ.out)
  clear b
  go_wp2_with fail
  refine (CT.out w2 B2.out).mono ?_
  rintro e w3 ⟨rfl, b⟩
  have B3 := Lib.hid (below_then B2.out b)
  have KX3 := Lib.hid (blk_below b KX2.out)
  have KZ3 := Lib.hid (blk_below b KZ2.out)
  clear b
  obtain ⟨⟨z0, z1, z2⟩, f0, f1, f2⟩ := three KZ3.out
  go_wp2
  exact item_ret rfl rfl rfl KZ3.out ⟨rfl, below_three B3.out (by omega) _ _ _⟩
set_option maxHeartbeats 4000000 in
theorem implCnvN (n d : Int) (t : ByteArray) (w : World) (h : isN ⟨n, d, t⟩ = true) (tab : Lib.TabIs Tryd.prog w "internal/strconv.uint64pow10" .u64 Lib.pow10Tab) :
    Calls Tryd.prog 81 #[.agg #[.int .i64 n, .int .i64 d, .string t], .int .i64 2, .int .i64 3] w (fun e w' => e = .returned (.agg #[.int .i64 0, .int .i64 1, .string (txI ⟨n, d, t⟩)]) ∧ Below w.heap.size w w') := by
  have hi := isN_iff.1 h
  have ht : t.size ≤ 9223372036854775807 := by have : t = ⟨#[]⟩ := hi.1; rw [this]; exact Nat.zero_le _
  have hd : d ≠ 0 := by have := hi.2.1; simp only at this; omega
  have hdb : (d == 0) = false := by simp [hd]
  have TB := Lib.hid tab
  have CF := Lib.hid (fun (W : World) (hb : Below w.heap.size w W) => implTxI n d t W ht (tab_below TB.out hb))
  obtain ⟨V, hV⟩ : ∃ V, txI ⟨n, d, t⟩ = V := ⟨_, rfl⟩
  rw [hV] at CF ⊢
  have CT := Lib.hid (fun (W : World) (_ : Below w.heap.size w W) => implTxtItem V W)
  clear hV hi h ht tab
  have hsz : (w.alloc (.cells #[.int .i64 n, .int .i64 d, .string t] 56)).heap.size = w.heap.size + 1 := by simp
  obtain ⟨w1, hw1⟩ : ∃ W, (w.alloc (.cells #[.int .i64 n, .int .i64 d, .string t] 56)).alloc (.cells #[.int .i64 0, .int .i64 0, .string ⟨#[]⟩] 56) = W := ⟨_, rfl⟩
  have B1 := Lib.hid (show Below w.heap.size w w1 from hw1 ▸ below2 w _ _)
  have KX := Lib.hid (show w1.heap[w.heap.size]? = some (.cells #[.int .i64 n, .int .i64 d, .string t] 56 (0, 0)) from hw1 ▸ blk_old (blk_new w _ rfl))
  have KZ := Lib.hid (show w1.heap[w.heap.size + 1]? = some (.cells #[.int .i64 0, .int .i64 0, .string ⟨#[]⟩] 56 (0, 0)) from by rw [← hw1]; exact blk_new _ _ hsz.symm)
  have EW := Lib.hid hw1
  clear hw1 hsz
  go_enter Tryd.func81, Tryd.ntmps81
  go_wp2_with fail
  rw [EW.out]
  refine (CF.out w1 B1.out).mono ?_
  rintro e w2 ⟨rfl, b⟩
  have B2 := Lib.hid (below_then B1.out b)
  have KX2 := Lib.hid (blk_below b KX.out)
  have KZ2 := Lib.hid (blk_below b KZ.out)
  clear b
  go_wp2_with fail
  refine (CT.out w2 B2.out).mono ?_
  rintro e w3 ⟨rfl, b⟩
  have B3 := Lib.hid (below_then B2.out b)
  have KX3 := Lib.hid (blk_below b KX2.out)
  have KZ3 := Lib.hid (blk_below b KZ2.out)
  clear b
  obtain ⟨⟨z0, z1, z2⟩, f0, f1, f2⟩ := three KZ3.out
  go_wp2
  exact item_ret rfl rfl rfl KZ3.out ⟨rfl, below_three B3.out (by omega) _ _ _⟩
theorem implCnv (k j : Int) (x : It) (w : World) (h : ItOk k x) (h0 : 0 ≤ k) (hk : k ≤ j) (hj : j ≤ 3) (tab : Lib.TabIs Tryd.prog w "internal/strconv.uint64pow10" .u64 Lib.pow10Tab) :
    Calls Tryd.prog 81 #[.agg #[.int .i64 x.n, .int .i64 x.d, .string x.t], .int .i64 k, .int .i64 j] w (fun e w' => e = .returned (.agg #[.int .i64 (cnvI k j x).n, .int .i64 (cnvI k j x).d, .string (cnvI k j x).t]) ∧ Below w.heap.size w w') := by
  by_cases hs : k = j ∨ j ≠ 3
  · rw [cnv_same (hs.imp id .inl)]
    exact implCnvS k j x.n x.d x.t w h0 hk hj hs
  · obtain rfl : j = 3 := by omega
    rcases h with rfl | ⟨rfl, h1, h2, h3, h4⟩ | ⟨rfl, h1⟩ | ⟨rfl, h1⟩
    · rw [cnv_same (.inr (.inr rfl))]
      exact implCnv0 k w h0 (by omega)
    · obtain ⟨n, d, t⟩ := x
      obtain rfl : t = ⟨#[]⟩ := empty_of_size h4
      obtain rfl : d = 1 := h1
      rw [cnv_log (show (1 : Int) ≠ 0 by decide)]
      exact implCnvL n w (by simp only at h2 h3; omega)
    · have hi := isN_iff.1 h1
      rw [cnv_num (by omega)]
      exact implCnvN x.n x.d x.t w h1 tab
    · omega
set_option maxHeartbeats 4000000 in
theorem specCnvS (k j n d : Int) (t : ByteArray) (w : World) (h0 : 0 ≤ k) (hk : k ≤ j) (hj : j ≤ 3) (hs : k = j ∨ j ≠ 3) :
    Calls Tryd.prog 31 #[.int .i64 k, .int .i64 j, .agg #[.int .i64 n, .int .i64 d, .string t]] w (fun e w' => e = .returned (.agg #[.int .i64 n, .int .i64 d, .string t]) ∧ Below w.heap.size w w') := by
  have hsz : (w.alloc (.cells #[.int .i64 n, .int .i64 d, .string t] 56)).heap.size = w.heap.size + 1 := by simp
  rcases (show (j = 3 ∧ k = 3) ∨ (j = 2 ∧ k = 2) ∨ (j = 2 ∧ k = 1) ∨ (j = 2 ∧ k = 0) ∨ (j = 1 ∧ k = 1) ∨ (j = 1 ∧ k = 0) ∨ (j = 0 ∧ k = 0) by omega) with ⟨rfl, rfl⟩ | ⟨rfl, rfl⟩ | ⟨rfl, rfl⟩ | ⟨rfl, rfl⟩ | ⟨rfl, rfl⟩ | ⟨rfl, rfl⟩ | ⟨rfl, rfl⟩
  all_goals
    clear h0 hk hj hs
    go_enter Tryd.func31, Tryd.ntmps31
    go_wp2
    first | exact item_ret0 rfl rfl rfl (blk_new _ _ hsz.symm) ⟨rfl, below2 w _ _⟩ | exact item_ret0 rfl rfl rfl (blk_new _ _ rfl) ⟨rfl, below2 w _ _⟩ | exact item_ret rfl rfl rfl (blk_new _ _ hsz.symm) ⟨rfl, below_three (below2 w _ _) (by simp) _ _ _⟩
set_option maxHeartbeats 4000000 in
theorem specCnv0 (k : Int) (w : World) (h0 : 0 ≤ k) (hk : k ≤ 2) :
    Calls Tryd.prog 31 #[.int .i64 k, .int .i64 3, .agg #[.int .i64 0, .int .i64 0, .string ⟨#[]⟩]] w (fun e w' => e = .returned (.agg #[.int .i64 0, .int .i64 0, .string ⟨#[]⟩]) ∧ Below w.heap.size w w') := by
  have hsz : (w.alloc (.cells #[.int .i64 0, .int .i64 0, .string ⟨#[]⟩] 56)).heap.size = w.heap.size + 1 := by simp
  rcases (show k = 0 ∨ k = 1 ∨ k = 2 by omega) with rfl | rfl | rfl
  all_goals
    clear h0 hk
    go_enter Tryd.func31, Tryd.ntmps31
    go_wp2
    first | exact item_ret0 rfl rfl rfl (blk_new _ _ hsz.symm) ⟨rfl, below2 w _ _⟩ | exact item_ret0 rfl rfl rfl (blk_new _ _ rfl) ⟨rfl, below2 w _ _⟩ | exact item_ret rfl rfl rfl (blk_new _ _ hsz.symm) ⟨rfl, below_three (below2 w _ _) (by simp) _ _ _⟩
set_option maxHeartbeats 4000000 in
theorem specCnvL (n : Int) (w : World) (hn : n = 0 ∨ n = 1) :
    Calls Tryd.prog 31 #[.int .i64 1, .int .i64 3, .agg #[.int .i64 n, .int .i64 1, .string ⟨#[]⟩]] w (fun e w' => e = .returned (.agg #[.int .i64 0, .int .i64 1, .string (if n = 0 then falB else truB)]) ∧ Below w.heap.size w w') := by
  rcases hn with rfl | rfl
  · have CT := Lib.hid (fun (W : World) => specTxtItem falB W)
    have hsz : (w.alloc (.cells #[.int .i64 0, .int .i64 1, .string ⟨#[]⟩] 56)).heap.size = w.heap.size + 1 := by simp
    obtain ⟨w1, hw1⟩ : ∃ W, (w.alloc (.cells #[.int .i64 0, .int .i64 1, .string ⟨#[]⟩] 56)).alloc (.cells #[.int .i64 0, .int .i64 0, .string ⟨#[]⟩] 56) = W := ⟨_, rfl⟩
    have B1 := Lib.hid (show Below w.heap.size w w1 from hw1 ▸ below2 w _ _)
    have KZ := Lib.hid (show w1.heap[w.heap.size + 1]? = some (.cells #[.int .i64 0, .int .i64 0, .string ⟨#[]⟩] 56 (0, 0)) from by rw [← hw1]; exact blk_new _ _ hsz.symm)
    have EW := Lib.hid hw1
    clear hw1 hsz
    go_enter Tryd.func31, Tryd.ntmps31
    go_wp2_with fail
    rw [EW.out]
    refine (CT.out _).mono ?_
    rintro e w3 ⟨rfl, b⟩
    have b0 : Below w1.heap.size w1 w3 := below_then (below1 w1 _) b
    have B2 := Lib.hid (below_then B1.out b0)
    have KZ2 := Lib.hid (blk_below b0 KZ.out)
    clear b b0
    obtain ⟨⟨z0, z1, z2⟩, f0, f1, f2⟩ := three KZ2.out
    go_wp2
    exact item_ret rfl rfl rfl KZ2.out ⟨rfl, below_three B2.out (by omega) _ _ _⟩
  · have CT := Lib.hid (fun (W : World) => specTxtItem truB W)
    have hsz : (w.alloc (.cells #[.int .i64 1, .int .i64 1, .string ⟨#[]⟩] 56)).heap.size = w.heap.size + 1 := by simp
    obtain ⟨w1, hw1⟩ : ∃ W, (w.alloc (.cells #[.int .i64 1, .int .i64 1, .string ⟨#[]⟩] 56)).alloc (.cells #[.int .i64 0, .int .i64 0, .string ⟨#[]⟩] 56) = W := ⟨_, rfl⟩
    have B1 := Lib.hid (show Below w.heap.size w w1 from hw1 ▸ below2 w _ _)
    have KZ := Lib.hid (show w1.heap[w.heap.size + 1]? = some (.cells #[.int .i64 0, .int .i64 0, .string ⟨#[]⟩] 56 (0, 0)) from by rw [← hw1]; exact blk_new _ _ hsz.symm)
    have EW := Lib.hid hw1
    clear hw1 hsz
    go_enter Tryd.func31, Tryd.ntmps31
    go_wp2_with fail
    rw [EW.out]
    refine (CT.out _).mono ?_
    rintro e w3 ⟨rfl, b⟩
    have b0 : Below w1.heap.size w1 w3 := below_then (below1 w1 _) b
    have B2 := Lib.hid (below_then B1.out b0)
    have KZ2 := Lib.hid (blk_below b0 KZ.out)
    clear b b0
    obtain ⟨⟨z0, z1, z2⟩, f0, f1, f2⟩ := three KZ2.out
    go_wp2
    exact item_ret rfl rfl rfl KZ2.out ⟨rfl, below_three B2.out (by omega) _ _ _⟩
set_option maxHeartbeats 4000000 in
theorem specCnvN (n d : Int) (t : ByteArray) (w : World) (h : isN ⟨n, d, t⟩ = true) :
    Calls Tryd.prog 31 #[.int .i64 2, .int .i64 3, .agg #[.int .i64 n, .int .i64 d, .string t]] w (fun e w' => e = .returned (.agg #[.int .i64 0, .int .i64 1, .string (txI ⟨n, d, t⟩)]) ∧ Below w.heap.size w w') := by
  have hi := isN_iff.1 h
  have ht : t.size ≤ 9223372036854775807 := by have : t = ⟨#[]⟩ := hi.1; rw [this]; exact Nat.zero_le _
  have hd : d ≠ 0 := by have := hi.2.1; simp only at this; omega
  have hdb : (d == 0) = false := by simp [hd]
  have CF := Lib.hid (fun (W : World) (hb : Below w.heap.size w W) => specTxI n d t W ht)
  obtain ⟨V, hV⟩ : ∃ V, txI ⟨n, d, t⟩ = V := ⟨_, rfl⟩
  rw [hV] at CF ⊢
  have CT := Lib.hid (fun (W : World) (_ : Below w.heap.size w W) => specTxtItem V W)
  clear hV hi h ht
  have hsz : (w.alloc (.cells #[.int .i64 n, .int .i64 d, .string t] 56)).heap.size = w.heap.size + 1 := by simp
  obtain ⟨w1, hw1⟩ : ∃ W, (w.alloc (.cells #[.int .i64 n, .int .i64 d, .string t] 56)).alloc (.cells #[.int .i64 0, .int .i64 0, .string ⟨#[]⟩] 56) = W := ⟨_, rfl⟩
  have B1 := Lib.hid (show Below w.heap.size w w1 from hw1 ▸ below2 w _ _)
  have KX := Lib.hid (show w1.heap[w.heap.size]? = some (.cells #[.int .i64 n, .int .i64 d, .string t] 56 (0, 0)) from hw1 ▸ blk_old (blk_new w _ rfl))
  have KZ := Lib.hid (show w1.heap[w.heap.size + 1]? = some (.cells #[.int .i64 0, .int .i64 0, .string ⟨#[]⟩] 56 (0, 0)) from by rw [← hw1]; exact blk_new _ _ hsz.symm)
  have EW := Lib.hid hw1
  clear hw1 hsz
  go_enter Tryd.func31, Tryd.ntmps31
  go_wp2_with fail
  rw [EW.out]
  refine (CF.out w1 B1.out).mono ?_
  rintro e w2 ⟨rfl, b⟩
  have B2 := Lib.hid (below_then B1.out b)
  have KX2 := Lib.hid (blk_below b KX.out)
  have KZ2 := Lib.hid (blk_below b KZ.out)
  clear b
  go_wp2_with fail
  refine (CT.out w2 B2.out).mono ?_
  rintro e w3 ⟨rfl, b⟩
  have B3 := Lib.hid (below_then B2.out b)
  have KX3 := Lib.hid (blk_below b KX2.out)
  have KZ3 := Lib.hid (blk_below b KZ2.out)
  clear b
  obtain ⟨⟨z0, z1, z2⟩, f0, f1, f2⟩ := three KZ3.out
  go_wp2
  exact item_ret rfl rfl rfl KZ3.out ⟨rfl, below_three B3.out (by omega) _ _ _⟩
theorem specCnv (k j : Int) (x : It) (w : World) (h : ItOk k x) (h0 : 0 ≤ k) (hk : k ≤ j) (hj : j ≤ 3) :
    Calls Tryd.prog 31 #[.int .i64 k, .int .i64 j, .agg #[.int .i64 x.n, .int .i64 x.d, .string x.t]] w (fun e w' => e = .returned (.agg #[.int .i64 (cnvI k j x).n, .int .i64 (cnvI k j x).d, .string (cnvI k j x).t]) ∧ Below w.heap.size w w') := by
  by_cases hs : k = j ∨ j ≠ 3
  · rw [cnv_same (hs.imp id .inl)]
    exact specCnvS k j x.n x.d x.t w h0 hk hj hs
  · obtain rfl : j = 3 := by omega
    rcases h with rfl | ⟨rfl, h1, h2, h3, h4⟩ | ⟨rfl, h1⟩ | ⟨rfl, h1⟩
    · rw [cnv_same (.inr (.inr rfl))]
      exact specCnv0 k w h0 (by omega)
    · obtain ⟨n, d, t⟩ := x
      obtain rfl : t = ⟨#[]⟩ := empty_of_size h4
      obtain rfl : d = 1 := h1
      rw [cnv_log (show (1 : Int) ≠ 0 by decide)]
      exact specCnvL n w (by simp only at h2 h3; omega)
    · have hi := isN_iff.1 h1
      rw [cnv_num (by omega)]
      exact specCnvN x.n x.d x.t w h1
    · omega
set_option maxHeartbeats 4000000 in
theorem implPlnS (n d : Int) (t : ByteArray) (al : Option Addr) (nl cl : Nat) (w : World) (h : (n = 0 ∧ d = 0 ∧ t.size = 0) ∨ (nl = 0 ∧ d ≠ 0)) :
    Calls Tryd.prog 88 #[.agg #[.int .i64 n, .int .i64 d, .string t], .slice al nl cl] w fun e w' => e = .returned (.agg #[.int .i64 n, .int .i64 d, .string t]) ∧ Below w.heap.size w w' := by
  have hsz : (w.alloc (.cells #[.int .i64 n, .int .i64 d, .string t] 56)).heap.size = w.heap.size + 1 := by simp
  rcases h with ⟨rfl, rfl, h⟩ | ⟨rfl, h⟩
  · obtain rfl := empty_of_size h
    clear h
    go_enter Tryd.func88, Tryd.ntmps88
    go_wp2
    first | exact item_ret0 rfl rfl rfl (blk_new _ _ hsz.symm) ⟨rfl, below2 w _ _⟩ | exact item_ret0 rfl rfl rfl (blk_new _ _ rfl) ⟨rfl, below2 w _ _⟩ | exact item_ret rfl rfl rfl (blk_new _ _ hsz.symm) ⟨rfl, below_three (below2 w _ _) (by simp) _ _ _⟩
  · have hdb : (d == 0) = false := by simp [h]
    clear h
    go_enter Tryd.func88, Tryd.ntmps88
    go_wp2
    first | exact item_ret0 rfl rfl rfl (blk_new _ _ hsz.symm) ⟨rfl, below2 w _ _⟩ | exact item_ret0 rfl rfl rfl (blk_new _ _ rfl) ⟨rfl, below2 w _ _⟩ | exact item_ret rfl rfl rfl (blk_new _ _ hsz.symm) ⟨rfl, below_three (below2 w _ _) (by simp) _ _ _⟩
set_option maxHeartbeats 4000000 in
theorem implPlnL (n d : Int) (t s : ByteArray) (b off nl cl m : Nat) (w : World) (hd : d ≠ 0) (hn : n - 1 = (m : Int)) (hm : m < nl) (hl : nl ≤ 20) (hb : b < w.heap.size) (hc : w.cell? ⟨b, off + m, none⟩ = some (.string s)) :
    Calls Tryd.prog 88 #[.agg #[.int .i64 n, .int .i64 d, .string t], .slice (some ⟨b, off, none⟩) nl cl] w fun e w' => e = .returned (.agg #[.int .i64 0, .int .i64 1, .string s]) ∧ Below w.heap.size w w' := by
  have hdb : (d == 0) = false := by simp [hd]
  have hnl : ((nl : Int) == 0) = false := by simp; omega
  have CT := Lib.hid (fun (W : World) (_ : Below w.heap.size w W) => implTxtItem s W)
  have hsz : (w.alloc (.cells #[.int .i64 n, .int .i64 d, .string t] 56)).heap.size = w.heap.size + 1 := by simp
  obtain ⟨w1, hw1⟩ : ∃ W, (w.alloc (.cells #[.int .i64 n, .int .i64 d, .string t] 56)).alloc (.cells #[.int .i64 0, .int .i64 0, .string ⟨#[]⟩] 56) = W := ⟨_, rfl⟩
  have B1 := Lib.hid (show Below w.heap.size w w1 from hw1 ▸ below2 w _ _)
  have KX := Lib.hid (show w1.heap[w.heap.size]? = some (.cells #[.int .i64 n, .int .i64 d, .string t] 56 (0, 0)) from hw1 ▸ blk_old (blk_new w _ rfl))
  have KZ := Lib.hid (show w1.heap[w.heap.size + 1]? = some (.cells #[.int .i64 0, .int .i64 0, .string ⟨#[]⟩] 56 (0, 0)) from by rw [← hw1]; exact blk_new _ _ hsz.symm)
  have EW := Lib.hid hw1
  clear hw1 hsz
  have hc1 : w1.cell? ⟨b, off + m, none⟩ = some (.string s) := ((bcell B1.out).1 _ _ hb).trans hc
  have hf1 : w1.frozen? ⟨b, off + m, none⟩ = w.frozen? ⟨b, off + m, none⟩ := (bcell B1.out).2 _ _ hb
  go_enter Tryd.func88, Tryd.ntmps88
  go_wp2_with fail
  rw [EW.out]
  refine (CT.out w1 B1.out).mono ?_
  rintro e w2 ⟨rfl, b⟩
  have B2 := Lib.hid (below_then B1.out b)
  have KX2 := Lib.hid (blk_below b KX.out)
  have KZ2 := Lib.hid (blk_below b KZ.out)
  clear b
  obtain ⟨⟨z0, z1, z2⟩, f0, f1, f2⟩ := three KZ2.out
  go_wp2
  exact item_ret rfl rfl rfl KZ2.out ⟨rfl, below_three B2.out (by omega) _ _ _⟩
theorem itOk_d0 {k : Int} {x : It} (h : ItOk k x) (hd : x.d = 0) : x = noI := by
  rcases h with rfl | ⟨_, h1, _⟩ | ⟨_, h1⟩ | ⟨_, _, h1, _⟩
  · rfl
  · omega
  · have := isN_iff.1 h1; omega
  · omega
theorem implPln {kk : Int} (levels : List ByteArray) (x : It) (al : Option Addr) (cl lo hi : Nat) (w : World) (hL : TextsAt lo hi w al levels) (hhi : hi ≤ w.heap.size) (hx : ItOk kk x) (hl : LevOk levels.length x) (hn : levels.length ≤ 20) :
    Calls Tryd.prog 88 #[.agg #[.int .i64 x.n, .int .i64 x.d, .string x.t], .slice al levels.length cl] w fun e w' => e = .returned (.agg #[.int .i64 (plnI levels x).n, .int .i64 (plnI levels x).d, .string (plnI levels x).t]) ∧ Below w.heap.size w w' := by
  by_cases h : x.d = 0 ∨ levels.length = 0
  · rw [pln_same h]
    refine implPlnS x.n x.d x.t al levels.length cl w ?_
    by_cases hd : x.d = 0
    · have := itOk_d0 hx hd
      subst this
      exact .inl ⟨rfl, rfl, rfl⟩
    · exact .inr ⟨h.resolve_left hd, hd⟩
  · rw [pln_lev h]
    obtain ⟨h1, h2, h3⟩ : x.d = 1 ∧ 1 ≤ x.n ∧ x.n ≤ (levels.length : Int) := by
      rcases hl with h0 | h0 | h0
      · exact absurd (.inr h0) h
      · exact absurd (.inl h0) h
      · exact h0
    have hm : (x.n - 1).toNat < levels.length := by omega
    have hg : levels[(x.n - 1).toNat]? = some (levels.getD (x.n - 1).toNat ⟨#[]⟩) := by rw [List.getD_eq_getElem?_getD, List.getElem?_eq_getElem hm]; rfl
    obtain ⟨b, off, rfl, _, hb, hc⟩ := hL _ _ hg
    exact implPlnL x.n x.d x.t _ b off levels.length cl (x.n - 1).toNat w (by omega) (by omega) hm hn (by omega) hc
set_option maxHeartbeats 4000000 in
theorem implCnt0 (w : World) :
    Calls Tryd.prog 37 #[.agg #[.int .i64 0, .int .i64 0, .string ⟨#[]⟩]] w fun e w' => e = .returned (.agg #[.int .i64 0, .int .i64 0, .string ⟨#[]⟩]) ∧ Below w.heap.size w w' := by
  have hsz : (w.alloc (.cells #[.int .i64 0, .int .i64 0, .string ⟨#[]⟩] 56)).heap.size = w.heap.size + 1 := by simp
  go_enter Tryd.func37, Tryd.ntmps37
  go_wp2
  first | exact item_ret0 rfl rfl rfl (blk_new _ _ hsz.symm) ⟨rfl, below2 w _ _⟩ | exact item_ret0 rfl rfl rfl (blk_new _ _ rfl) ⟨rfl, below2 w _ _⟩ | exact item_ret rfl rfl rfl (blk_new _ _ hsz.symm) ⟨rfl, below_three (below2 w _ _) (by simp) _ _ _⟩
set_option maxHeartbeats 4000000 in
theorem implCnt1 (n d : Int) (t : ByteArray) (w : World) (hd : d ≠ 0) (ht : t.size ≤ 60) :
    Calls Tryd.prog 37 #[.agg #[.int .i64 n, .int .i64 d, .string t]] w fun e w' => e = .returned (.agg #[.int .i64 (t.size : Int), .int .i64 1, .string ⟨#[]⟩]) ∧ Below w.heap.size w w' := by
  have hdb : (d == 0) = false := by simp [hd]
  have EM := mkI_int (n := (t.size : Int)) (by omega) (by omega)
  have CT := Lib.hid (fun (W : World) (_ : Below w.heap.size w W) => (by have h := implMake (t.size : Int) 1 W (by omega) (by omega); rw [EM] at h; exact h : Calls Tryd.prog 75 #[.int .i64 (t.size : Int), .int .i64 1] W fun e w' => e = .returned (.agg #[.int .i64 (t.size : Int), .int .i64 1, .string ⟨#[]⟩]) ∧ Below W.heap.size W w'))
  clear EM
  have hsz : (w.alloc (.cells #[.int .i64 n, .int .i64 d, .string t] 56)).heap.size = w.heap.size + 1 := by simp
  obtain ⟨w1, hw1⟩ : ∃ W, (w.alloc (.cells #[.int .i64 n, .int .i64 d, .string t] 56)).alloc (.cells #[.int .i64 0, .int .i64 0, .string ⟨#[]⟩] 56) = W := ⟨_, rfl⟩
  have B1 := Lib.hid (show Below w.heap.size w w1 from hw1 ▸ below2 w _ _)
  have KX := Lib.hid (show w1.heap[w.heap.size]? = some (.cells #[.int .i64 n, .int .i64 d, .string t] 56 (0, 0)) from hw1 ▸ blk_old (blk_new w _ rfl))
  have KZ := Lib.hid (show w1.heap[w.heap.size + 1]? = some (.cells #[.int .i64 0, .int .i64 0, .string ⟨#[]⟩] 56 (0, 0)) from by rw [← hw1]; exact blk_new _ _ hsz.symm)
  have EW := Lib.hid hw1
  clear hw1 hsz
  go_enter Tryd.func37, Tryd.ntmps37
  go_wp2_with fail
  rw [EW.out]
  refine (CT.out w1 B1.out).mono ?_
  rintro e w2 ⟨rfl, b⟩
  have B2 := Lib.hid (below_then B1.out b)
  have KX2 := Lib.hid (blk_below b KX.out)
  have KZ2 := Lib.hid (blk_below b KZ.out)
  clear b
  obtain ⟨⟨z0, z1, z2⟩, f0, f1, f2⟩ := three KZ2.out
  go_wp2
  exact item_ret rfl rfl rfl KZ2.out ⟨rfl, below_three B2.out (by omega) _ _ _⟩

theorem implCntI (x : It) (w : World) (h : ItOk 3 x) :
    Calls Tryd.prog 37 #[.agg #[.int .i64 x.n, .int .i64 x.d, .string x.t]] w fun e w' => e = .returned (.agg #[.int .i64 (bytI x).n, .int .i64 (bytI x).d, .string (bytI x).t]) ∧ Below w.heap.size w w' := by
  have hs := (itOk_size h).2
  rcases h with rfl | ⟨_, h1⟩ | ⟨_, h1⟩ | ⟨_, h1, h2, h3⟩
  · rw [bytI_no rfl]; exact implCnt0 w
  · omega
  · omega
  · rw [bytI_yes (by omega)]; exact implCnt1 x.n x.d x.t w (by omega) hs
end Go.Proofs.YtjpdnabfpiengaaDoor

/- plainVector and convertVector of the program. -/
namespace Go.Proofs.YtjpdnabfpiengaaDoor
open Go.RowKit
set_option maxRecDepth 100000
set_option linter.unusedVariables false

theorem ResV.up {d : Nat} {V : Vec} {w W0 : World} {e : Ending} {w' : World} (h : ResV d V W0 e w') (b : Below w.heap.size w W0) : ResV d V w e w' := by
  obtain ⟨y, e1, ho, hb⟩ := h
  exact ⟨y, e1, ho.wide b.size (Nat.le_refl _), below_then b hb⟩
set_option maxHeartbeats 8000000 in
theorem implPlain (d : Nat) (kk : Int) (items : List It) (parts : List Vec) (names cls levels : List ByteArray) (code env : Int) (val : Value) (lo hi : Nat) (w : World) (hv : VecAt lo hi w d (.mk kk items parts names cls levels code env) val) (hhi : hi ≤ w.heap.size) (ok : AtmOk kk items levels) :
    Calls Tryd.prog 74 #[val] w (ResV 1 (vecOf (plnK kk levels) (plnL levels items)) w) := by
  obtain ⟨d', ai, ci, ap, cp, an, cn, ac, cc, al, cl, ed, rfl, hI, hN, hC, hL, hP⟩ := vecAt_open hv
  have AI := Lib.hid (fun (k : Nat) (w1 : World) (hk : k < items.length) (hb : Below w.heap.size w w1) => (hI.below hb hhi).at_ hk)
  have CI := Lib.hid (fun (k : Nat) (W : World) (hk : k < items.length) (hb : Below w.heap.size w W) => implPln levels (items.getD k noI) al cl lo hi W (hL.below hb hhi) (Nat.le_trans hhi hb.size) (ok.its k hk).1 (ok.its k hk).2 ok.llen)
  have li := ok.len
  have EV := Lib.hid (show vecOf (plnK kk levels) (plnL levels items) = mkN (plnK kk levels) (itF (fun i => plnI levels (items.getD i noI)) items.length) [] from rfl)
  obtain ⟨R, hR⟩ : ∃ R, vecOf (plnK kk levels) (plnL levels items) = R := ⟨_, rfl⟩
  rw [hR] at EV ⊢
  have HK : (levels.length = 0 ∧ kk = plnK kk levels) ∨ (¬ levels.length = 0 ∧ 3 = plnK kk levels) := by
    by_cases h : levels.length = 0
    · exact .inl ⟨h, (plnK_no h).symm⟩
    · exact .inr ⟨h, (plnK_yes h).symm⟩
  obtain ⟨K, hK⟩ : ∃ K, plnK kk levels = K := ⟨_, rfl⟩
  rw [hK] at EV HK
  clear hv hI hN hC hL hP ok ed hR hK
  obtain ⟨W0, hW0⟩ : ∃ W, w.alloc (.cells #[.int .i64 kk, .slice ai items.length ci, .slice ap parts.length cp, .slice an names.length cn, .slice ac cls.length cc, .slice al levels.length cl, .int .i64 code, .int .i64 env] 31) = W := ⟨_, rfl⟩
  have BW0 := Lib.hid (show Below w.heap.size w W0 from hW0 ▸ below1 w _)
  have SW0 := Lib.hid (show W0.heap.size = w.heap.size + 1 by rw [← hW0]; simp)
  have KARG0 := Lib.hid (show W0.heap[w.heap.size]? = some (.cells #[.int .i64 kk, .slice ai items.length ci, .slice ap parts.length cp, .slice an names.length cn, .slice ac cls.length cc, .slice al levels.length cl, .int .i64 code, .int .i64 env] 31 (0, 0)) from hW0 ▸ blk_new w _ rfl)
  have ST := Lib.hid (show AppN W0 ((W0.alloc (.cells #[.int .i64 0, .slice none 0 0, .slice none 0 0, .slice none 0 0, .slice none 0 0, .slice none 0 0, .int .i64 0, .int .i64 0] 31)).alloc (.cells #[.int .i64 K, .slice none 0 0, .slice none 0 0, .slice none 0 0, .slice none 0 0, .slice none 0 0, .int .i64 0, .int .i64 0] 31)) W0.heap.size (W0.heap.size + 1) K (itF (fun i => plnI levels (items.getD i noI)) 0) none 0 0 [] none 0 [] from
    ⟨blk_old (blk_new W0 _ rfl), blk_new _ _ (by simp), ⟨rfl, .inl ⟨rfl, rfl⟩⟩, .inl ⟨rfl, rfl⟩, Nat.le_refl _, List.nodup_nil, (fun _ h => by cases h), below2 W0 _ _, Nat.le_refl _, Nat.lt_succ_self _⟩)
  have EW := Lib.hid hW0
  clear hW0
  obtain ⟨n, hn⟩ : ∃ n, items.length = n := ⟨_, rfl⟩
  rw [hn] at AI CI KARG0 EW EV li ⊢
  clear hn
  obtain ⟨nl, hnl⟩ : ∃ nl, levels.length = nl := ⟨_, rfl⟩
  rw [hnl] at EW KARG0 CI HK ⊢
  clear hnl
  rcases HK with ⟨rfl, rfl⟩ | ⟨h0, rfl⟩
  · go_enter Tryd.func74, Tryd.ntmps74
    go_wp2
    rw [EW.out, ← SW0.out]
    obtain ⟨r, hr⟩ : ∃ r, W0.heap.size = r := ⟨_, rfl⟩
    rw [hr] at ST ⊢
    obtain ⟨b, hb⟩ : ∃ b, r + 1 = b := ⟨_, rfl⟩
    rw [hb] at ST ⊢
    clear hr hb EW
    go_loopw [17] (fun i wr => ∃ (k : Nat) (sa : Option Addr) (sn sc : Nat), k ≤ n ∧ i = .int .i64 k ∧ AppN W0 wr r b kk (itF (fun i => plnI levels (items.getD i noI)) k) sa sn sc [] none 0 []) (fun i _ => n - (intOf i).toNat)
    case atStart => exact ⟨0, none, 0, 0, Nat.zero_le _, rfl, ST.out⟩
    case round =>
      obtain ⟨k, sa, sn, sc, hk, rfl, hap⟩ := hrel
      have AP := Lib.hid hap
      clear hap
      by_cases hlt : k < n
      · obtain ⟨ba, off, rfl, hbB, c0, c1, c2⟩ := AI.out _ _ hlt (below_then BW0.out AP.out.below)
        have CK := Lib.hid (fun W hb => CI.out k W hlt hb)
        have NX := Lib.hid (itF_succ (fun i => plnI levels (items.getD i noI)) k)
        obtain ⟨z, hz⟩ : ∃ z : It, plnI levels (items.getD k noI) = z := ⟨_, rfl⟩
        rw [hz] at CK NX
        change wr.cell? _ = some (.string (items.getD k noI).t) at c2
        obtain ⟨x, hx⟩ : ∃ x : It, items.getD k noI = x := ⟨_, rfl⟩
        rw [hx] at c0 c1 c2 CK
        have LN := Lib.hid (show (itF (fun i => plnI levels (items.getD i noI)) k).length ≤ 1048576 by rw [itF_len]; omega)
        have hbw : ba < wr.heap.size := Nat.lt_of_lt_of_le (Nat.lt_of_lt_of_le hbB hhi) (below_then BW0.out AP.out.below).size
        have FAR := Lib.hid (fun (C : Array Value) (q : Nat × TypeId × Array Value) (hq : q ∈ (wr.heap.size, 56, C) :: (w.heap.size, 31, #[.int .i64 kk, .slice (some ⟨ba, off, none⟩) n ci, .slice ap parts.length cp, .slice an names.length cn, .slice ac cls.length cc, .slice al 0 cl, .int .i64 code, .int .i64 env]) :: [(r, 31, #[.int .i64 0, .slice none 0 0, .slice none 0 0, .slice none 0 0, .slice none 0 0, .slice none 0 0, .int .i64 0, .int .i64 0]), (b, 31, #[.int .i64 kk, .slice sa sn sc, .slice none 0 0, .slice none 0 0, .slice none 0 0, .slice none 0 0, .int .i64 0, .int .i64 0])]) (j : Nat) (hj : (Value.slice sa sn sc).ownBlock = some j) => (by
          rcases List.mem_cons.1 hq with rfl | hq
          · exact AP.out.far (C := C) (List.Mem.head _) j hj
          rcases List.mem_cons.1 hq with rfl | hq
          · have := (AP.out.row.lt j hj).1; have := AP.out.o1; have := AP.out.o2; have := SW0.out; simp only; omega
          · exact AP.out.far (C := C) (List.Mem.tail _ hq) j hj : q.1 ≠ j))
        have W0L := Lib.hid (show W0.heap.size ≤ b + 1 by have := AP.out.o1; have := AP.out.o2; omega)
        have B0L := Lib.hid (show W0.heap.size ≤ b by have := AP.out.o1; have := AP.out.o2; omega)
        have KA := Lib.hid (blk_below AP.out.below KARG0.out)
        have hbb := AP.out.big
        clear hx hz
        go_wp2
        obtain ⟨w5, hw5⟩ : ∃ W, wr.alloc (.cells #[.int .i64 x.n, .int .i64 x.d, .string x.t] 56) = W := ⟨_, rfl⟩
        have KA := Lib.hid (blk_below (show Below wr.heap.size wr w5 from hw5 ▸ below1 wr _) KA.out)
        have AP := Lib.hid (show AppN W0 w5 r b kk (itF (fun i => plnI levels (items.getD i noI)) k) sa sn sc [] none 0 [] from hw5 ▸ AP.out.keep (below1 wr _))
        have X1 := Lib.hid (show w5.heap[wr.heap.size]? = some (.cells #[.int .i64 x.n, .int .i64 x.d, .string x.t] 56 (0, 0)) from hw5 ▸ blk_new wr _ rfl)
        rw [hw5]
        clear hw5
        have H := Lib.hid (heldC_cons (heldC_cons AP.out.heldC KA.out) X1.out)
        refine run_region (ops := (opsOf Tryd.f74 7)) (S := fun w' => HeldC W0 w' ([(wr.heap.size, 56, #[.int .i64 x.n, .int .i64 x.d, .string x.t]), (w.heap.size, 31, #[.int .i64 kk, .slice (some ⟨ba, off, none⟩) n ci, .slice ap parts.length cp, .slice an names.length cn, .slice ac cls.length cc, .slice al 0 cl, .int .i64 code, .int .i64 env]), (r, 31, #[.int .i64 0, .slice none 0 0, .slice none 0 0, .slice none 0 0, .slice none 0 0, .slice none 0 0, .int .i64 0, .int .i64 0]), (b, 31, #[.int .i64 kk, .slice sa sn sc, .slice none 0 0, .slice none 0 0, .slice none 0 0, .slice none 0 0, .int .i64 0, .int .i64 0])])) [(0, true), (1, true), (2, true), (3, true), (4, true), (5, false), (6, false), (7, false), (8, true), (9, false)] (by kernel_rfl) (by kernel_rfl) (by kernel_rfl) (by kernel_rfl) (by kernel_rfl) (fun _ _ _ _ _ h => h) (heldC_drew H.out) ?_
        have H := Lib.hid (heldC_drew H.out)
        have AP := Lib.hid (AP.out.keep (below_drew' (Below.refl _ _)))
        refine runC_partV (b := b) (by kernel_rfl) (show opAt (opsOf Tryd.f74 7) 0 = some (some 21, .fieldAddr 31 (.tmp 3) 1, none) from by kernel_rfl) (by kernel_rfl) (by kernel_rfl) (by kernel_rfl) ?_
        refine runC_cell (b := b) (j := 1) (v := .slice sa sn sc) load_its (show opAt (opsOf Tryd.f74 7) 1 = some (some 22, .load 28 (.tmp 21), none) from by kernel_rfl) (by kernel_rfl) (by kernel_rfl) (by kernel_rfl) (List.Mem.tail _ (List.Mem.tail _ (List.Mem.tail _ (List.Mem.head _)))) rfl ?_
        refine runC_itm (b := wr.heap.size) (show opAt (opsOf Tryd.f74 7) 2 = some (some 23, .load 56 (.tmp 5), none) from by kernel_rfl) (by kernel_rfl) (by kernel_rfl) (by kernel_rfl) (List.Mem.head _) ?_
        refine runC_partV (b := w.heap.size) (by kernel_rfl) (show opAt (opsOf Tryd.f74 7) 3 = some (some 24, .fieldAddr 31 (.tmp 1) 5, none) from by kernel_rfl) (by kernel_rfl) (by kernel_rfl) (by kernel_rfl) ?_
        refine runC_cell (b := w.heap.size) (j := 5) (v := .slice al 0 cl) load_strs (show opAt (opsOf Tryd.f74 7) 4 = some (some 25, .load 24 (.tmp 24), none) from by kernel_rfl) (by kernel_rfl) (by kernel_rfl) (by kernel_rfl) (List.Mem.tail _ (List.Mem.head _)) rfl ?_
        refine run_call (args := [.agg #[.int .i64 x.n, .int .i64 x.d, .string x.t], .slice al 0 cl]) (show opAt (opsOf Tryd.f74 7) 5 = some (some 26, .call { callee := .value (.func 88), args := [(.tmp 23), (.tmp 25)].toArray, argTypes := [56, 24].toArray }, none) from by kernel_rfl) (by kernel_rfl) (by kernel_rfl) (by kernel_rfl) (by kernel_rfl) ?_
        refine (CK.out _ (below_then BW0.out H.out.1)).mono ?_
        rintro en rw1 ⟨rfl, hb⟩
        refine ⟨_, rfl, heldC_call H.out hb, ?_⟩
        have H := Lib.hid (heldC_call H.out hb)
        have AP := Lib.hid (AP.out.keep hb)
        clear hb
        refine tail_item2 z (show opAt (opsOf Tryd.f74 7) 6 = some (some 27, .buildSlice 28 1 #[(0, (.tmp 26))], none) from by kernel_rfl) (by kernel_rfl) (by kernel_rfl) (show opAt (opsOf Tryd.f74 7) 7 = some (some 28, .call { callee := .builtin .append, args := [(.tmp 22), (.tmp 27)].toArray, argTypes := [28, 28].toArray }, none) from by kernel_rfl) (by kernel_rfl) (fun _ => by kernel_rfl) (show opAt (opsOf Tryd.f74 7) 8 = some (some 29, .fieldAddr 31 (.tmp 3) 1, none) from by kernel_rfl) (by kernel_rfl) (by kernel_rfl) (fun _ _ => by kernel_rfl) (show opAt (opsOf Tryd.f74 7) 9 = some (none, .store 28 (.tmp 29) (.tmp 28), none) from by kernel_rfl) (by kernel_rfl) (by kernel_rfl) H.out AP.out.row LN.out (Nat.succ_le_of_lt (Array.getElem?_eq_some_iff.1 (heldC_at H.out (List.Mem.tail _ (List.Mem.tail _ (List.Mem.tail _ (List.Mem.head _)))))).1) W0L.out (List.Mem.tail _ (List.Mem.tail _ (List.Mem.tail _ (List.Mem.head _)))) rfl (Nat.lt_succ_self _) B0L.out (fun q hq => FAR.out _ q hq) ?_
        rintro v' w2 ⟨sa, sn, sc, rfl⟩ hK hO hB hZ hR hG
        simp only [putAll, Act.put, List.setIfInBounds_toArray, List.set_cons_zero, List.set_cons_succ]
        have AN := Lib.hid (AP.out.next hK hO hB (hR _ (List.Mem.tail _ (List.Mem.tail _ (List.Mem.head _))) (by have := AP.out.o2; simp only; omega)) (fun g hg => hG g (by have := AP.out.rng g hg; have := AP.out.big; omega) (by have := AP.out.rng g hg; omega) (fun j hj => by have := (AP.out.row.lt j hj).1; have := AP.out.rng g hg; omega)))
        clear hK hO hB hR hG H FAR LN
        go_wp2
        go_roundw
        case rel => exact ⟨k + 1, sa, sn, sc, by omega, by go_num, NX.out ▸ AN.out⟩
        case measure => simp [intOf]; omega
      · obtain rfl : k = n := by omega
        have K1 := Lib.hid AP.out.vec
        have K0 := Lib.hid AP.out.res
        have FN := Lib.hid AP.out.fin
        obtain ⟨k0, k1, k2, k3, k4, k5, k6, k7⟩ := vec8 K1.out
        obtain ⟨z0, z1, z2, z3, z4, z5, z6, z7⟩ := vec8 K0.out
        obtain ⟨f0, f1, f2, f3, f4, f5, f6, f7⟩ := free8 K0.out
        go_wp2
        rw [EV.out]
        exact vec_end rfl rfl rfl K0.out (FN.out.up BW0.out)
  · have hl0 : 0 < (nl : Int) := by omega
    go_enter Tryd.func74, Tryd.ntmps74
    go_wp2
    rw [EW.out, ← SW0.out]
    obtain ⟨r, hr⟩ : ∃ r, W0.heap.size = r := ⟨_, rfl⟩
    rw [hr] at ST ⊢
    obtain ⟨b, hb⟩ : ∃ b, r + 1 = b := ⟨_, rfl⟩
    rw [hb] at ST ⊢
    clear hr hb EW
    go_loopw [17] (fun i wr => ∃ (k : Nat) (sa : Option Addr) (sn sc : Nat), k ≤ n ∧ i = .int .i64 k ∧ AppN W0 wr r b 3 (itF (fun i => plnI levels (items.getD i noI)) k) sa sn sc [] none 0 []) (fun i _ => n - (intOf i).toNat)
    case atStart => exact ⟨0, none, 0, 0, Nat.zero_le _, rfl, ST.out⟩
    case round =>
      obtain ⟨k, sa, sn, sc, hk, rfl, hap⟩ := hrel
      have AP := Lib.hid hap
      clear hap
      by_cases hlt : k < n
      · obtain ⟨ba, off, rfl, hbB, c0, c1, c2⟩ := AI.out _ _ hlt (below_then BW0.out AP.out.below)
        have CK := Lib.hid (fun W hb => CI.out k W hlt hb)
        have NX := Lib.hid (itF_succ (fun i => plnI levels (items.getD i noI)) k)
        obtain ⟨z, hz⟩ : ∃ z : It, plnI levels (items.getD k noI) = z := ⟨_, rfl⟩
        rw [hz] at CK NX
        change wr.cell? _ = some (.string (items.getD k noI).t) at c2
        obtain ⟨x, hx⟩ : ∃ x : It, items.getD k noI = x := ⟨_, rfl⟩
        rw [hx] at c0 c1 c2 CK
        have LN := Lib.hid (show (itF (fun i => plnI levels (items.getD i noI)) k).length ≤ 1048576 by rw [itF_len]; omega)
        have hbw : ba < wr.heap.size := Nat.lt_of_lt_of_le (Nat.lt_of_lt_of_le hbB hhi) (below_then BW0.out AP.out.below).size
        have FAR := Lib.hid (fun (C : Array Value) (q : Nat × TypeId × Array Value) (hq : q ∈ (wr.heap.size, 56, C) :: (w.heap.size, 31, #[.int .i64 kk, .slice (some ⟨ba, off, none⟩) n ci, .slice ap parts.length cp, .slice an names.length cn, .slice ac cls.length cc, .slice al nl cl, .int .i64 code, .int .i64 env]) :: [(r, 31, #[.int .i64 0, .slice none 0 0, .slice none 0 0, .slice none 0 0, .slice none 0 0, .slice none 0 0, .int .i64 0, .int .i64 0]), (b, 31, #[.int .i64 3, .slice sa sn sc, .slice none 0 0, .slice none 0 0, .slice none 0 0, .slice none 0 0, .int .i64 0, .int .i64 0])]) (j : Nat) (hj : (Value.slice sa sn sc).ownBlock = some j) => (by
          rcases List.mem_cons.1 hq with rfl | hq
          · exact AP.out.far (C := C) (List.Mem.head _) j hj
          rcases List.mem_cons.1 hq with rfl | hq
          · have := (AP.out.row.lt j hj).1; have := AP.out.o1; have := AP.out.o2; have := SW0.out; simp only; omega
          · exact AP.out.far (C := C) (List.Mem.tail _ hq) j hj : q.1 ≠ j))
        have W0L := Lib.hid (show W0.heap.size ≤ b + 1 by have := AP.out.o1; have := AP.out.o2; omega)
        have B0L := Lib.hid (show W0.heap.size ≤ b by have := AP.out.o1; have := AP.out.o2; omega)
        have KA := Lib.hid (blk_below AP.out.below KARG0.out)
        have hbb := AP.out.big
        clear hx hz
        go_wp2
        obtain ⟨w5, hw5⟩ : ∃ W, wr.alloc (.cells #[.int .i64 x.n, .int .i64 x.d, .string x.t] 56) = W := ⟨_, rfl⟩
        have KA := Lib.hid (blk_below (show Below wr.heap.size wr w5 from hw5 ▸ below1 wr _) KA.out)
        have AP := Lib.hid (show AppN W0 w5 r b 3 (itF (fun i => plnI levels (items.getD i noI)) k) sa sn sc [] none 0 [] from hw5 ▸ AP.out.keep (below1 wr _))
        have X1 := Lib.hid (show w5.heap[wr.heap.size]? = some (.cells #[.int .i64 x.n, .int .i64 x.d, .string x.t] 56 (0, 0)) from hw5 ▸ blk_new wr _ rfl)
        rw [hw5]
        clear hw5
        have H := Lib.hid (heldC_cons (heldC_cons AP.out.heldC KA.out) X1.out)
        refine run_region (ops := (opsOf Tryd.f74 7)) (S := fun w' => HeldC W0 w' ([(wr.heap.size, 56, #[.int .i64 x.n, .int .i64 x.d, .string x.t]), (w.heap.size, 31, #[.int .i64 kk, .slice (some ⟨ba, off, none⟩) n ci, .slice ap parts.length cp, .slice an names.length cn, .slice ac cls.length cc, .slice al nl cl, .int .i64 code, .int .i64 env]), (r, 31, #[.int .i64 0, .slice none 0 0, .slice none 0 0, .slice none 0 0, .slice none 0 0, .slice none 0 0, .int .i64 0, .int .i64 0]), (b, 31, #[.int .i64 3, .slice sa sn sc, .slice none 0 0, .slice none 0 0, .slice none 0 0, .slice none 0 0, .int .i64 0, .int .i64 0])])) [(0, true), (1, true), (2, true), (3, true), (4, true), (5, false), (6, false), (7, false), (8, true), (9, false)] (by kernel_rfl) (by kernel_rfl) (by kernel_rfl) (by kernel_rfl) (by kernel_rfl) (fun _ _ _ _ _ h => h) (heldC_drew H.out) ?_
        have H := Lib.hid (heldC_drew H.out)
        have AP := Lib.hid (AP.out.keep (below_drew' (Below.refl _ _)))
        refine runC_partV (b := b) (by kernel_rfl) (show opAt (opsOf Tryd.f74 7) 0 = some (some 21, .fieldAddr 31 (.tmp 3) 1, none) from by kernel_rfl) (by kernel_rfl) (by kernel_rfl) (by kernel_rfl) ?_
        refine runC_cell (b := b) (j := 1) (v := .slice sa sn sc) load_its (show opAt (opsOf Tryd.f74 7) 1 = some (some 22, .load 28 (.tmp 21), none) from by kernel_rfl) (by kernel_rfl) (by kernel_rfl) (by kernel_rfl) (List.Mem.tail _ (List.Mem.tail _ (List.Mem.tail _ (List.Mem.head _)))) rfl ?_
        refine runC_itm (b := wr.heap.size) (show opAt (opsOf Tryd.f74 7) 2 = some (some 23, .load 56 (.tmp 5), none) from by kernel_rfl) (by kernel_rfl) (by kernel_rfl) (by kernel_rfl) (List.Mem.head _) ?_
        refine runC_partV (b := w.heap.size) (by kernel_rfl) (show opAt (opsOf Tryd.f74 7) 3 = some (some 24, .fieldAddr 31 (.tmp 1) 5, none) from by kernel_rfl) (by kernel_rfl) (by kernel_rfl) (by kernel_rfl) ?_
        refine runC_cell (b := w.heap.size) (j := 5) (v := .slice al nl cl) load_strs (show opAt (opsOf Tryd.f74 7) 4 = some (some 25, .load 24 (.tmp 24), none) from by kernel_rfl) (by kernel_rfl) (by kernel_rfl) (by kernel_rfl) (List.Mem.tail _ (List.Mem.head _)) rfl ?_
        refine run_call (args := [.agg #[.int .i64 x.n, .int .i64 x.d, .string x.t], .slice al nl cl]) (show opAt (opsOf Tryd.f74 7) 5 = some (some 26, .call { callee := .value (.func 88), args := [(.tmp 23), (.tmp 25)].toArray, argTypes := [56, 24].toArray }, none) from by kernel_rfl) (by kernel_rfl) (by kernel_rfl) (by kernel_rfl) (by kernel_rfl) ?_
        refine (CK.out _ (below_then BW0.out H.out.1)).mono ?_
        rintro en rw1 ⟨rfl, hb⟩
        refine ⟨_, rfl, heldC_call H.out hb, ?_⟩
        have H := Lib.hid (heldC_call H.out hb)
        have AP := Lib.hid (AP.out.keep hb)
        clear hb
        refine tail_item2 z (show opAt (opsOf Tryd.f74 7) 6 = some (some 27, .buildSlice 28 1 #[(0, (.tmp 26))], none) from by kernel_rfl) (by kernel_rfl) (by kernel_rfl) (show opAt (opsOf Tryd.f74 7) 7 = some (some 28, .call { callee := .builtin .append, args := [(.tmp 22), (.tmp 27)].toArray, argTypes := [28, 28].toArray }, none) from by kernel_rfl) (by kernel_rfl) (fun _ => by kernel_rfl) (show opAt (opsOf Tryd.f74 7) 8 = some (some 29, .fieldAddr 31 (.tmp 3) 1, none) from by kernel_rfl) (by kernel_rfl) (by kernel_rfl) (fun _ _ => by kernel_rfl) (show opAt (opsOf Tryd.f74 7) 9 = some (none, .store 28 (.tmp 29) (.tmp 28), none) from by kernel_rfl) (by kernel_rfl) (by kernel_rfl) H.out AP.out.row LN.out (Nat.succ_le_of_lt (Array.getElem?_eq_some_iff.1 (heldC_at H.out (List.Mem.tail _ (List.Mem.tail _ (List.Mem.tail _ (List.Mem.head _)))))).1) W0L.out (List.Mem.tail _ (List.Mem.tail _ (List.Mem.tail _ (List.Mem.head _)))) rfl (Nat.lt_succ_self _) B0L.out (fun q hq => FAR.out _ q hq) ?_
        rintro v' w2 ⟨sa, sn, sc, rfl⟩ hK hO hB hZ hR hG
        simp only [putAll, Act.put, List.setIfInBounds_toArray, List.set_cons_zero, List.set_cons_succ]
        have AN := Lib.hid (AP.out.next hK hO hB (hR _ (List.Mem.tail _ (List.Mem.tail _ (List.Mem.head _))) (by have := AP.out.o2; simp only; omega)) (fun g hg => hG g (by have := AP.out.rng g hg; have := AP.out.big; omega) (by have := AP.out.rng g hg; omega) (fun j hj => by have := (AP.out.row.lt j hj).1; have := AP.out.rng g hg; omega)))
        clear hK hO hB hR hG H FAR LN
        go_wp2
        go_roundw
        case rel => exact ⟨k + 1, sa, sn, sc, by omega, by go_num, NX.out ▸ AN.out⟩
        case measure => simp [intOf]; omega
      · obtain rfl : k = n := by omega
        have K1 := Lib.hid AP.out.vec
        have K0 := Lib.hid AP.out.res
        have FN := Lib.hid AP.out.fin
        obtain ⟨k0, k1, k2, k3, k4, k5, k6, k7⟩ := vec8 K1.out
        obtain ⟨z0, z1, z2, z3, z4, z5, z6, z7⟩ := vec8 K0.out
        obtain ⟨f0, f1, f2, f3, f4, f5, f6, f7⟩ := free8 K0.out
        go_wp2
        rw [EV.out]
        exact vec_end rfl rfl rfl K0.out (FN.out.up BW0.out)
set_option maxHeartbeats 8000000 in
theorem implConv (d : Nat) (kk j : Int) (items : List It) (parts : List Vec) (names cls levels : List ByteArray) (code env : Int) (val : Value) (lo hi : Nat) (w : World) (hv : VecAt lo hi w d (.mk kk items parts names cls levels code env) val) (hhi : hi ≤ w.heap.size) (hk0 : 0 ≤ kk) (hkj : kk ≤ j) (hj : j ≤ 3) (li : items.length ≤ 40) (ln : names.length ≤ 1048576) (hit : ∀ i, i < items.length → ItOk kk (items.getD i noI)) (tab : Lib.TabIs Tryd.prog w "internal/strconv.uint64pow10" .u64 Lib.pow10Tab) :
    Calls Tryd.prog 49 #[val, .int .i64 j] w (ResV 1 (mkN j (cnvL kk j items) names) w) := by
  obtain ⟨d', ai, ci, ap, cp, an, cn, ac, cc, al, cl, ed, rfl, hI, hN, hC, hL, hP⟩ := vecAt_open hv
  have AI := Lib.hid (fun (k : Nat) (w1 : World) (hk : k < items.length) (hb : Below w.heap.size w w1) => (hI.below hb hhi).at_ hk)
  have CI := Lib.hid (fun (k : Nat) (W : World) (hk : k < items.length) (hb : Below w.heap.size w W) => implCnv kk j (items.getD k noI) W (hit k hk) hk0 hkj hj (tab_below tab hb))
  have CC := Lib.hid (fun (w1 : World) (hb : Below w.heap.size w w1) => implCopyAny names an cn lo hi w1 (hN.below hb hhi) ln)
  have EV := Lib.hid (show mkN j (cnvL kk j items) names = mkN j (itF (fun i => cnvI kk j (items.getD i noI)) items.length) names from rfl)
  obtain ⟨R, hR⟩ : ∃ R, mkN j (cnvL kk j items) names = R := ⟨_, rfl⟩
  rw [hR] at EV ⊢
  have hj4 : (j == 4) = false := by simp only [beq_eq_false_iff_ne, ne_eq]; omega
  clear hv hI hN hC hL hP ed hR hk0 hkj hit tab
  obtain ⟨W0, hW0⟩ : ∃ W, w.alloc (.cells #[.int .i64 kk, .slice ai items.length ci, .slice ap parts.length cp, .slice an names.length cn, .slice ac cls.length cc, .slice al levels.length cl, .int .i64 code, .int .i64 env] 31) = W := ⟨_, rfl⟩
  have BW0 := Lib.hid (show Below w.heap.size w W0 from hW0 ▸ below1 w _)
  have SW0 := Lib.hid (show W0.heap.size = w.heap.size + 1 by rw [← hW0]; simp)
  have KARG0 := Lib.hid (show W0.heap[w.heap.size]? = some (.cells #[.int .i64 kk, .slice ai items.length ci, .slice ap parts.length cp, .slice an names.length cn, .slice ac cls.length cc, .slice al levels.length cl, .int .i64 code, .int .i64 env] 31 (0, 0)) from hW0 ▸ blk_new w _ rfl)
  have EW := Lib.hid hW0
  clear hW0
  obtain ⟨n, hn⟩ : ∃ n, items.length = n := ⟨_, rfl⟩
  rw [hn] at AI CI KARG0 EW EV li ⊢
  clear hn
  go_enter Tryd.func49, Tryd.ntmps49
  go_wp2_with fail
  rw [EW.out]
  obtain ⟨w1, hw1⟩ : ∃ W, W0.alloc (.cells #[.int .i64 0, .slice none 0 0, .slice none 0 0, .slice none 0 0, .slice none 0 0, .slice none 0 0, .int .i64 0, .int .i64 0] 31) = W := ⟨_, rfl⟩
  have B1 := Lib.hid (show Below W0.heap.size W0 w1 from hw1 ▸ below1 W0 _)
  have KZ1 := Lib.hid (show w1.heap[W0.heap.size]? = some (.cells #[.int .i64 0, .slice none 0 0, .slice none 0 0, .slice none 0 0, .slice none 0 0, .slice none 0 0, .int .i64 0, .int .i64 0] 31 (0, 0)) from hw1 ▸ blk_new W0 _ rfl)
  have S1 : w1.heap.size = W0.heap.size + 1 := by rw [← hw1]; simp
  rw [hw1]
  clear hw1
  with_reducible refine (CC.out _ (below_then BW0.out B1.out)).mono ?_
  rintro e w4 ⟨v, rfl, ⟨na, nc, F, rfl, hT, hnd, hr, hcap⟩, b⟩
  have B4 := Lib.hid (below_then B1.out b)
  have KZ4 := Lib.hid (blk_below b KZ1.out)
  have KARG4 := Lib.hid (blk_below B4.out KARG0.out)
  have S4 := b.size
  have ST := Lib.hid (show AppN W0 (w4.alloc (.cells #[.int .i64 j, .slice none 0 0, .slice none 0 0, .slice na names.length nc, .slice none 0 0, .slice none 0 0, .int .i64 0, .int .i64 0] 31)) W0.heap.size w4.heap.size j (itF (fun i => cnvI kk j (items.getD i noI)) 0) none 0 0 names na nc F from
    ⟨blk_old KZ4.out, blk_new w4 _ rfl, ⟨rfl, .inl ⟨rfl, rfl⟩⟩, hT.kept (fun g hg => (below1 w4 _).block g (hr g hg).2), hcap, hnd, (fun g hg => by have h1 := hr g hg; omega), B4.out.alloc B4.out.size _, Nat.le_refl _, by omega⟩)
  clear b hT hnd hr hcap S4 S1
  have hltA := (Array.getElem?_eq_some_iff.1 KARG4.out).1
  obtain ⟨k0, k1, k2, k3, k4, k5, k6, k7⟩ := vec8 KARG4.out
  go_wp2
  rw [← SW0.out]
  clear k0 k1 k2 k3 k4 k5 k6 k7 hltA
  obtain ⟨r, hr⟩ : ∃ r, W0.heap.size = r := ⟨_, rfl⟩
  rw [hr] at ST ⊢
  obtain ⟨b, hb⟩ : ∃ b, w4.heap.size = b := ⟨_, rfl⟩
  rw [hb] at ST ⊢
  clear hr hb EW
  go_loopw [22] (fun i wr => ∃ (k : Nat) (sa : Option Addr) (sn sc : Nat), k ≤ n ∧ i = .int .i64 k ∧ AppN W0 wr r b j (itF (fun i => cnvI kk j (items.getD i noI)) k) sa sn sc names na nc F) (fun i _ => n - (intOf i).toNat)
  case atStart => exact ⟨0, none, 0, 0, Nat.zero_le _, rfl, ST.out⟩
  case round =>
    obtain ⟨k, sa, sn, sc, hk, rfl, hap⟩ := hrel
    have AP := Lib.hid hap
    clear hap
    by_cases hlt : k < n
    · obtain ⟨ba, off, rfl, hbB, c0, c1, c2⟩ := AI.out _ _ hlt (below_then BW0.out AP.out.below)
      have CK := Lib.hid (fun W hb => CI.out k W hlt hb)
      have NX := Lib.hid (itF_succ (fun i => cnvI kk j (items.getD i noI)) k)
      obtain ⟨z, hz⟩ : ∃ z : It, cnvI kk j (items.getD k noI) = z := ⟨_, rfl⟩
      rw [hz] at CK NX
      change wr.cell? _ = some (.string (items.getD k noI).t) at c2
      obtain ⟨x, hx⟩ : ∃ x : It, items.getD k noI = x := ⟨_, rfl⟩
      rw [hx] at c0 c1 c2 CK
      have LN := Lib.hid (show (itF (fun i => cnvI kk j (items.getD i noI)) k).length ≤ 1048576 by rw [itF_len]; omega)
      have hbw : ba < wr.heap.size := Nat.lt_of_lt_of_le (Nat.lt_of_lt_of_le hbB hhi) (below_then BW0.out AP.out.below).size
      have FAR := Lib.hid (fun (C : Array Value) (q : Nat × TypeId × Array Value) (hq : q ∈ (wr.heap.size, 56, C) :: (w.heap.size, 31, #[.int .i64 kk, .slice (some ⟨ba, off, none⟩) n ci, .slice ap parts.length cp, .slice an names.length cn, .slice ac cls.length cc, .slice al levels.length cl, .int .i64 code, .int .i64 env]) :: [(r, 31, #[.int .i64 0, .slice none 0 0, .slice none 0 0, .slice none 0 0, .slice none 0 0, .slice none 0 0, .int .i64 0, .int .i64 0]), (b, 31, #[.int .i64 j, .slice sa sn sc, .slice none 0 0, .slice na names.length nc, .slice none 0 0, .slice none 0 0, .int .i64 0, .int .i64 0])]) (j : Nat) (hj : (Value.slice sa sn sc).ownBlock = some j) => (by
        rcases List.mem_cons.1 hq with rfl | hq
        · exact AP.out.far (C := C) (List.Mem.head _) j hj
        rcases List.mem_cons.1 hq with rfl | hq
        · have := (AP.out.row.lt j hj).1; have := AP.out.o1; have := AP.out.o2; have := SW0.out; simp only; omega
        · exact AP.out.far (C := C) (List.Mem.tail _ hq) j hj : q.1 ≠ j))
      have W0L := Lib.hid (show W0.heap.size ≤ b + 1 by have := AP.out.o1; have := AP.out.o2; omega)
      have B0L := Lib.hid (show W0.heap.size ≤ b by have := AP.out.o1; have := AP.out.o2; omega)
      have KA := Lib.hid (blk_below AP.out.below KARG0.out)
      have hbb := AP.out.big
      clear hx hz
      go_wp2
      obtain ⟨w5, hw5⟩ : ∃ W, wr.alloc (.cells #[.int .i64 x.n, .int .i64 x.d, .string x.t] 56) = W := ⟨_, rfl⟩
      have KA := Lib.hid (blk_below (show Below wr.heap.size wr w5 from hw5 ▸ below1 wr _) KA.out)
      have AP := Lib.hid (show AppN W0 w5 r b j (itF (fun i => cnvI kk j (items.getD i noI)) k) sa sn sc names na nc F from hw5 ▸ AP.out.keep (below1 wr _))
      have X1 := Lib.hid (show w5.heap[wr.heap.size]? = some (.cells #[.int .i64 x.n, .int .i64 x.d, .string x.t] 56 (0, 0)) from hw5 ▸ blk_new wr _ rfl)
      rw [hw5]
      clear hw5
      have H := Lib.hid (heldC_cons (heldC_cons AP.out.heldC KA.out) X1.out)
      refine run_region (ops := (opsOf Tryd.f49 8)) (S := fun w' => HeldC W0 w' ([(wr.heap.size, 56, #[.int .i64 x.n, .int .i64 x.d, .string x.t]), (w.heap.size, 31, #[.int .i64 kk, .slice (some ⟨ba, off, none⟩) n ci, .slice ap parts.length cp, .slice an names.length cn, .slice ac cls.length cc, .slice al levels.length cl, .int .i64 code, .int .i64 env]), (r, 31, #[.int .i64 0, .slice none 0 0, .slice none 0 0, .slice none 0 0, .slice none 0 0, .slice none 0 0, .int .i64 0, .int .i64 0]), (b, 31, #[.int .i64 j, .slice sa sn sc, .slice none 0 0, .slice na names.length nc, .slice none 0 0, .slice none 0 0, .int .i64 0, .int .i64 0])])) [(0, true), (1, true), (2, true), (3, true), (4, true), (5, true), (6, false), (7, false), (8, false), (9, true), (10, false)] (by kernel_rfl) (by kernel_rfl) (by kernel_rfl) (by kernel_rfl) (by kernel_rfl) (fun _ _ _ _ _ h => h) (heldC_drew H.out) ?_
      have H := Lib.hid (heldC_drew H.out)
      have AP := Lib.hid (AP.out.keep (below_drew' (Below.refl _ _)))
      refine runC_partV (b := b) (by kernel_rfl) (show opAt (opsOf Tryd.f49 8) 0 = some (some 26, .fieldAddr 31 (.tmp 5) 1, none) from by kernel_rfl) (by kernel_rfl) (by kernel_rfl) (by kernel_rfl) ?_
      refine runC_cell (b := b) (j := 1) (v := .slice sa sn sc) load_its (show opAt (opsOf Tryd.f49 8) 1 = some (some 27, .load 28 (.tmp 26), none) from by kernel_rfl) (by kernel_rfl) (by kernel_rfl) (by kernel_rfl) (List.Mem.tail _ (List.Mem.tail _ (List.Mem.tail _ (List.Mem.head _)))) rfl ?_
      refine runC_itm (b := wr.heap.size) (show opAt (opsOf Tryd.f49 8) 2 = some (some 28, .load 56 (.tmp 7), none) from by kernel_rfl) (by kernel_rfl) (by kernel_rfl) (by kernel_rfl) (List.Mem.head _) ?_
      refine runC_partV (b := w.heap.size) (by kernel_rfl) (show opAt (opsOf Tryd.f49 8) 3 = some (some 29, .fieldAddr 31 (.tmp 2) 0, none) from by kernel_rfl) (by kernel_rfl) (by kernel_rfl) (by kernel_rfl) ?_
      refine runC_cell (b := w.heap.size) (j := 0) (v := .int .i64 kk) load_int (show opAt (opsOf Tryd.f49 8) 4 = some (some 30, .load 3 (.tmp 29), none) from by kernel_rfl) (by kernel_rfl) (by kernel_rfl) (by kernel_rfl) (List.Mem.tail _ (List.Mem.head _)) rfl ?_
      refine run_mov (v := .int .i64 j) (show opAt (opsOf Tryd.f49 8) 5 = some (some 31, .move (.tmp 1), none) from by kernel_rfl) (by kernel_rfl) (by kernel_rfl) (by kernel_rfl) ?_
      refine run_call (args := [.agg #[.int .i64 x.n, .int .i64 x.d, .string x.t], .int .i64 kk, .int .i64 j]) (show opAt (opsOf Tryd.f49 8) 6 = some (some 32, .call { callee := .value (.func 81), args := [(.tmp 28), (.tmp 30), (.tmp 31)].toArray, argTypes := [56, 3, 3].toArray }, none) from by kernel_rfl) (by kernel_rfl) (by kernel_rfl) (by kernel_rfl) (by kernel_rfl) ?_
      refine (CK.out _ (below_then BW0.out H.out.1)).mono ?_
      rintro en rw1 ⟨rfl, hb⟩
      refine ⟨_, rfl, heldC_call H.out hb, ?_⟩
      have H := Lib.hid (heldC_call H.out hb)
      have AP := Lib.hid (AP.out.keep hb)
      clear hb
      refine tail_item2 z (show opAt (opsOf Tryd.f49 8) 7 = some (some 33, .buildSlice 28 1 #[(0, (.tmp 32))], none) from by kernel_rfl) (by kernel_rfl) (by kernel_rfl) (show opAt (opsOf Tryd.f49 8) 8 = some (some 34, .call { callee := .builtin .append, args := [(.tmp 27), (.tmp 33)].toArray, argTypes := [28, 28].toArray }, none) from by kernel_rfl) (by kernel_rfl) (fun _ => by kernel_rfl) (show opAt (opsOf Tryd.f49 8) 9 = some (some 35, .fieldAddr 31 (.tmp 5) 1, none) from by kernel_rfl) (by kernel_rfl) (by kernel_rfl) (fun _ _ => by kernel_rfl) (show opAt (opsOf Tryd.f49 8) 10 = some (none, .store 28 (.tmp 35) (.tmp 34), none) from by kernel_rfl) (by kernel_rfl) (by kernel_rfl) H.out AP.out.row LN.out (Nat.succ_le_of_lt (Array.getElem?_eq_some_iff.1 (heldC_at H.out (List.Mem.tail _ (List.Mem.tail _ (List.Mem.tail _ (List.Mem.head _)))))).1) W0L.out (List.Mem.tail _ (List.Mem.tail _ (List.Mem.tail _ (List.Mem.head _)))) rfl (Nat.lt_succ_self _) B0L.out (fun q hq => FAR.out _ q hq) ?_
      rintro v' w2 ⟨sa, sn, sc, rfl⟩ hK hO hB hZ hR hG
      simp only [putAll, Act.put, List.setIfInBounds_toArray, List.set_cons_zero, List.set_cons_succ]
      have AN := Lib.hid (AP.out.next hK hO hB (hR _ (List.Mem.tail _ (List.Mem.tail _ (List.Mem.head _))) (by have := AP.out.o2; simp only; omega)) (fun g hg => hG g (by have := AP.out.rng g hg; have := AP.out.big; omega) (by have := AP.out.rng g hg; omega) (fun j hj => by have := (AP.out.row.lt j hj).1; have := AP.out.rng g hg; omega)))
      clear hK hO hB hR hG H FAR LN
      go_wp2
      go_roundw
      case rel => exact ⟨k + 1, sa, sn, sc, by omega, by go_num, NX.out ▸ AN.out⟩
      case measure => simp [intOf]; omega
    · obtain rfl : k = n := by omega
      have K1 := Lib.hid AP.out.vec
      have K0 := Lib.hid AP.out.res
      have FN := Lib.hid AP.out.fin
      obtain ⟨k0, k1, k2, k3, k4, k5, k6, k7⟩ := vec8 K1.out
      obtain ⟨z0, z1, z2, z3, z4, z5, z6, z7⟩ := vec8 K0.out
      obtain ⟨f0, f1, f2, f3, f4, f5, f6, f7⟩ := free8 K0.out
      go_wp2
      rw [EV.out]
      exact vec_end rfl rfl rfl K0.out (FN.out.up BW0.out)
end Go.Proofs.YtjpdnabfpiengaaDoor

/- What a loop that appends items to a vector keeps: all blocks of the world ahead of it but the vector's own. -/
namespace Go.Proofs.YtjpdnabfpiengaaDoor
open Go.RowKit
set_option maxRecDepth 100000
set_option linter.unusedVariables false

structure AppK (w w0 wr : World) (b : Nat) (kind : Int) (l : List It) (sa : Option Addr) (sn sc : Nat) (na : Option Addr) (nn nc : Nat) : Prop where
  vec : wr.heap[b]? = some (.cells #[.int .i64 kind, .slice sa sn sc, .slice none 0 0, .slice na nn nc, .slice none 0 0, .slice none 0 0, .int .i64 0, .int .i64 0] 31 (0, 0))
  row : wr.ownsRow w0.heap.size 56 3 (.slice sa sn sc) l.length (itCells l)
  kept : ∀ g, g < w0.heap.size → g ≠ b → wr.heap[g]? = w0.heap[g]?
  size : w0.heap.size ≤ wr.heap.size
  below : Below w.heap.size w wr
  lt : b < w0.heap.size
  ge : w.heap.size ≤ b
theorem AppK.start {w w0 : World} {b : Nat} {kind : Int} {na : Option Addr} {nn nc : Nat} (h : w0.heap[b]? = some (.cells #[.int .i64 kind, .slice none 0 0, .slice none 0 0, .slice na nn nc, .slice none 0 0, .slice none 0 0, .int .i64 0, .int .i64 0] 31 (0, 0))) (hB : Below w.heap.size w w0) (hb : w.heap.size ≤ b) : AppK w w0 w0 b kind [] none 0 0 na nn nc :=
  ⟨h, ⟨rfl, .inl ⟨rfl, rfl⟩⟩, fun _ _ _ => rfl, Nat.le_refl _, hB, (Array.getElem?_eq_some_iff.1 h).1, hb⟩
theorem AppK.keep {w w0 wr w1 : World} {b : Nat} {kind : Int} {l : List It} {sa : Option Addr} {sn sc : Nat} {na : Option Addr} {nn nc : Nat} (h : AppK w w0 wr b kind l sa sn sc na nn nc) (hb : Below wr.heap.size wr w1) : AppK w w0 w1 b kind l sa sn sc na nn nc :=
  ⟨blk_below hb h.vec, ownsRow_below h.row hb, fun g hg hn => (hb.block g (Nat.lt_of_lt_of_le hg h.size)).trans (h.kept g hg hn), Nat.le_trans h.size hb.size, below_then h.below hb, h.lt, h.ge⟩
theorem AppK.blk {w w0 wr : World} {b : Nat} {kind : Int} {l : List It} {sa : Option Addr} {sn sc : Nat} {na : Option Addr} {nn nc : Nat} (h : AppK w w0 wr b kind l sa sn sc na nn nc) {g : Nat} {o : Obj} (hg : w0.heap[g]? = some o) (hn : g ≠ b) : wr.heap[g]? = some o := (h.kept g (Array.getElem?_eq_some_iff.1 hg).1 hn).trans hg
theorem AppK.far {w w0 wr : World} {b : Nat} {kind : Int} {l : List It} {sa : Option Addr} {sn sc : Nat} {na : Option Addr} {nn nc : Nat} (h : AppK w w0 wr b kind l sa sn sc na nn nc) {g j : Nat} (hj : (Value.slice sa sn sc).ownBlock = some j) (hg : g < w0.heap.size ∨ wr.heap.size ≤ g) : g ≠ j := by
  have := h.row.lt j hj
  omega
theorem AppK.next {w w0 wr W : World} {b : Nat} {kind : Int} {l : List It} {z : It} {sa sa' : Option Addr} {sn sc sn' sc' : Nat} {na : Option Addr} {nn nc : Nat} (h : AppK w w0 wr b kind l sa sn sc na nn nc)
    (hK : W.heap[b]? = some (.cells (#[.int .i64 kind, .slice sa sn sc, .slice none 0 0, .slice na nn nc, .slice none 0 0, .slice none 0 0, .int .i64 0, .int .i64 0].setIfInBounds 1 (.slice sa' sn' sc')) 31 (0, 0)))
    (hO : W.ownsRow w0.heap.size 56 3 (.slice sa' sn' sc') (l ++ [z]).length (itCells (l ++ [z]))) (hB : Below w.heap.size w W) (hZ : wr.heap.size ≤ W.heap.size)
    (hG : ∀ g, g < wr.heap.size → g ≠ b → (∀ k, (Value.slice sa sn sc).ownBlock = some k → g ≠ k) → W.heap[g]? = wr.heap[g]?) : AppK w w0 W b kind (l ++ [z]) sa' sn' sc' na nn nc :=
  ⟨hK, hO, fun g hg hn => (hG g (Nat.lt_of_lt_of_le hg h.size) hn (fun k hk => h.far hk (.inl hg))).trans (h.kept g hg hn), Nat.le_trans h.size hZ, hB, h.lt, h.ge⟩
/-- The vector that the loop has made. -/
theorem AppK.own {w w0 wr : World} {b : Nat} {kind : Int} {l : List It} {sa : Option Addr} {sn sc : Nat} {na : Option Addr} {nc : Nat} {names : List ByteArray} {F : List Nat} (h : AppK w w0 wr b kind l sa sn sc na names.length nc)
    (hT : OwnTxs w0 na names F) (hnd : F.Nodup) (hF : ∀ g ∈ F, w.heap.size ≤ g ∧ g < w0.heap.size ∧ g ≠ b) (hc : names.length ≤ nc) : ∃ G, OwnVec wr 1 (mkN kind l names) (.agg #[.int .i64 kind, .slice sa sn sc, .slice none 0 0, .slice na names.length nc, .slice none 0 0, .slice none 0 0, .int .i64 0, .int .i64 0]) G ∧ G.Nodup ∧ ∀ g ∈ G, w.heap.size ≤ g ∧ g < wr.heap.size ∧ (w0.heap.size ≤ g ∨ g ∈ F) := by
  obtain ⟨a, c, Fi, e, ho, hn, hr, hc'⟩ := own_of_its h.row
  obtain ⟨rfl, rfl, rfl⟩ : sa = a ∧ sn = l.length ∧ sc = c := by simpa using e
  have h0 : w.heap.size ≤ w0.heap.size := Nat.le_trans h.ge (Nat.le_of_lt h.lt)
  refine ⟨Fi ++ F, ?_, ?_, ?_⟩
  · show OwnVec wr 1 (.mk kind l [] names [] [] 0 0) _ _
    unfold OwnVec
    exact ⟨sa, sc, none, 0, na, nc, none, 0, none, 0, Fi, [], F, [], [], rfl, by simp, ⟨hc', Nat.le_refl _, hc, Nat.le_refl _, Nat.le_refl _⟩, ho, hT.kept (fun g hg => h.kept g (hF g hg).2.1 (hF g hg).2.2), .inl ⟨rfl, rfl⟩, .inl ⟨rfl, rfl⟩, .inl ⟨rfl, rfl⟩⟩
  · rw [List.nodup_append]
    exact ⟨hn, hnd, fun x hx y hy e => by have := hr x hx; have := hF y hy; omega⟩
  · intro g hg
    have h3 := h.size
    rcases List.mem_append.1 hg with hg | hg
    · have := hr g hg; exact ⟨by omega, by omega, .inl this.1⟩
    · have := hF g hg; exact ⟨by omega, by omega, .inr hg⟩
theorem AppK.fin {w w0 wr : World} {b r : Nat} {kind : Int} {l : List It} {sa : Option Addr} {sn sc : Nat} {na : Option Addr} {nc : Nat} {names : List ByteArray} {F : List Nat} (h : AppK w w0 wr b kind l sa sn sc na names.length nc)
    (hT : OwnTxs w0 na names F) (hnd : F.Nodup) (hF : ∀ g ∈ F, w.heap.size ≤ g ∧ g < w0.heap.size ∧ g ≠ b ∧ g ≠ r) (hc : names.length ≤ nc) (hr : w.heap.size ≤ r ∧ r < w0.heap.size) : ResV 1 (mkN kind l names) w (.returned (.agg #[.int .i64 kind, .slice sa sn sc, .slice none 0 0, .slice na names.length nc, .slice none 0 0, .slice none 0 0, .int .i64 0, .int .i64 0])) (put8 wr r 0 (.int .i64 kind) (.slice sa sn sc) (.slice none 0 0) (.slice na names.length nc) (.slice none 0 0) (.slice none 0 0) (.int .i64 0) (.int .i64 0)) := by
  obtain ⟨G, ho, hn, hg⟩ := h.own hT hnd (fun g hg => ⟨(hF g hg).1, (hF g hg).2.1, (hF g hg).2.2.1⟩) hc
  refine ⟨_, rfl, ⟨G, ho.kept _ _ _ _ (fun g hg' => put8_other ?_), hn, fun g hg' => by rw [put8_size]; have := hg g hg'; omega⟩, put8_below h.below hr.1⟩
  rcases (hg g hg').2.2 with h1 | h1
  · omega
  · exact (hF g h1).2.2.2
/-- Items that lie in blocks of the world ahead of the loop, other than the vector's. -/
theorem ItemsAt.loopK {w0 wr : World} {a : Option Addr} {l : List It} {lo hi b : Nat} (h : ItemsAt lo hi w0 a l) (hb : b < lo ∨ hi ≤ b) (hhi : hi ≤ w0.heap.size) (k : ∀ g, g < w0.heap.size → g ≠ b → wr.heap[g]? = w0.heap[g]?) {i : Nat} (hi' : i < l.length) :
    ∃ ba off, a = some ⟨ba, off, none⟩ ∧ ba < w0.heap.size ∧ wr.cell? ⟨ba, off + i * 3, none⟩ = some (.int .i64 (l.getD i noI).n) ∧ wr.cell? ⟨ba, off + i * 3 + 1, none⟩ = some (.int .i64 (l.getD i noI).d) ∧ wr.cell? ⟨ba, off + i * 3 + 2, none⟩ = some (.string (l.getD i noI).t) := by
  have hk : ItemsAt lo hi wr a l := h.kept (fun g o h1 h2 => by simp only [World.cell?]; rw [k g (by omega) (by omega)])
  obtain ⟨ba, off, e, hlt, c0, c1, c2⟩ := hk.at_ hi'
  exact ⟨ba, off, e, by omega, c0, c1, c2⟩
end Go.Proofs.YtjpdnabfpiengaaDoor

/- CountBytes as data; that of the program. -/
namespace Go.Proofs.YtjpdnabfpiengaaDoor
open Go.RowKit
set_option maxRecDepth 100000
set_option linter.unusedVariables false

/-- The elements as texts. -/
def txsL (kk : Int) (items : List It) (levels : List ByteArray) : List It := cnvL (plnK kk levels) 3 (plnL levels items)
theorem txsL_len (kk : Int) (items : List It) (levels : List ByteArray) : (txsL kk items levels).length = items.length := by unfold txsL; rw [cnvL_len, plnL_len]
theorem txsL_ok {kk : Int} {items : List It} {levels : List ByteArray} (ok : AtmOk kk items levels) {i : Nat} (hi : i < (txsL kk items levels).length) : ItOk 3 ((txsL kk items levels).getD i noI) := by
  rw [txsL_len] at hi
  exact ok.cnv ok.pk.2.1 (Int.le_refl _) hi
/-- What CountBytes answers. -/
noncomputable def cbV (v : Vec) : Vec := match bB (atmS v = ⟨#[]⟩), v with
  | true, .mk kk items _ names _ levels _ _ => mkN 2 (itF (fun i => bytI ((txsL kk items levels).getD i noI)) (txsL kk items levels).length) names
  | false, _ => noV
theorem cbV_yes {kk : Int} {items : List It} {parts : List Vec} {names cls levels : List ByteArray} {code env : Int} (h : atmS (.mk kk items parts names cls levels code env) = ⟨#[]⟩) : cbV (.mk kk items parts names cls levels code env) = mkN 2 (itF (fun i => bytI ((txsL kk items levels).getD i noI)) (txsL kk items levels).length) names := by unfold cbV; rw [bB_yes h]
theorem cbV_no {v : Vec} (h : ¬ atmS v = ⟨#[]⟩) : cbV v = noV := by unfold cbV; rw [bB_no h]
theorem field_its {w : World} {c0 c2 c3 c4 c5 c6 c7 : Value} {a : Option Addr} {n c : Nat} : (Instr.field 31 (.agg #[c0, .slice a n c, c2, c3, c4, c5, c6, c7]) 1).run Tryd.prog w = .ok (.slice a n c) w := by
  kernel_rfl
set_option maxHeartbeats 4000000 in
theorem implPlainTexts (d : Nat) (kk : Int) (items : List It) (parts : List Vec) (names cls levels : List ByteArray) (code env : Int) (val : Value) (lo hi : Nat) (w : World) (hv : VecAt lo hi w d (.mk kk items parts names cls levels code env) val) (hhi : hi ≤ w.heap.size) (ok : AtmOk kk items levels) (tab : Lib.TabIs Tryd.prog w "internal/strconv.uint64pow10" .u64 Lib.pow10Tab) :
    Calls Tryd.prog 36 #[val] w fun e w' => (∃ a c, e = .returned (.slice a (txsL kk items levels).length c) ∧ ItemsAt w.heap.size w'.heap.size w' a (txsL kk items levels)) ∧ Below w.heap.size w w' := by
  have CP := Lib.hid (fun (W : World) (hb : Below w.heap.size w W) => implPlain d kk items parts names cls levels code env val lo hi W (hv.below hb hhi) (Nat.le_trans hhi hb.size) ok)
  have hpk := ok.pk
  have CC := Lib.hid (fun (W : World) (y : Value) (h : VecAt 0 W.heap.size W 1 (vecOf (plnK kk levels) (plnL levels items)) y) (hb : Below w.heap.size w W) => (by have q := implConv 1 (plnK kk levels) 3 (plnL levels items) [] [] [] [] 0 0 y 0 W.heap.size W h (Nat.le_refl _) hpk.1 hpk.2.1 (Int.le_refl _) (by rw [plnL_len]; exact ok.len) (by simp) (fun i hi => ok.pln (by rwa [plnL_len] at hi)) (tab_below tab hb); exact q : Calls Tryd.prog 49 #[y, .int .i64 3] W (ResV 1 (mkN 3 (txsL kk items levels) []) W)))
  obtain ⟨X, hX⟩ : ∃ X, txsL kk items levels = X := ⟨_, rfl⟩
  rw [hX] at CC ⊢
  obtain ⟨d', ai, ci, ap, cp, an, cn, ac, cc, al, cl, ed, rfl, hI, hN, hC, hL, hP⟩ := vecAt_open hv
  clear hv hI hN hC hL hP ed hX ok hpk tab
  have B0 := Lib.hid (below1 w (.cells #[.int .i64 kk, .slice ai items.length ci, .slice ap parts.length cp, .slice an names.length cn, .slice ac cls.length cc, .slice al levels.length cl, .int .i64 code, .int .i64 env] 31))
  go_enter Tryd.func36, Tryd.ntmps36
  go_wp2_with fail
  with_reducible refine (CP.out _ B0.out).mono ?_
  rintro e w2 ⟨y, rfl, ho, b⟩
  have B2 := Lib.hid (below_then B0.out b)
  have O2 := Lib.hid (ho.vat (Nat.le_refl _))
  clear ho b
  go_wp2_with fail
  with_reducible refine (CC.out _ _ O2.out B2.out).mono ?_
  rintro e w3 ⟨y3, rfl, ho, b⟩
  have hv3 := ho.vatL (Nat.le_refl _) (Nat.le_refl _)
  obtain ⟨d3, bi, di, bp, dp, bn, dn, bc, dc, bl, dl, ed, rfl, hI, _⟩ := vecAt_open (show VecAt w2.heap.size w3.heap.size w3 1 (.mk 3 X [] [] [] [] 0 0) y3 from hv3)
  have HI := Lib.hid (hI.wide B2.out.size (Nat.le_refl _))
  have B3 := Lib.hid (below_then B2.out b)
  clear hv3 ed hI ho b
  have EF := field_its (w := w3) (c0 := .int .i64 3) (a := bi) (n := X.length) (c := di) (c2 := .slice bp 0 dp) (c3 := .slice bn 0 dn) (c4 := .slice bc 0 dc) (c5 := .slice bl 0 dl) (c6 := .int .i64 0) (c7 := .int .i64 0)
  go_wp2
  go_ret
  exact ⟨⟨_, _, rfl, HI.out⟩, B3.out⟩
set_option maxHeartbeats 8000000 in
theorem implCountB (d : Nat) (v : Vec) (val : Value) (lo hi : Nat) (w : World) (hv : VecAt lo hi w d v val) (hhi : hi ≤ w.heap.size) (hsm : Small d v) (tab : Lib.TabIs Tryd.prog w "internal/strconv.uint64pow10" .u64 Lib.pow10Tab) :
    Calls Tryd.prog 10 #[val] w (ResVS 1 (cbV v) (atmS v) w) := by
  obtain ⟨VV, hVV⟩ : ∃ V, v = V := ⟨_, rfl⟩
  rw [hVV]
  obtain ⟨kk, items, parts, names, cls, levels, code, env⟩ := v
  have hv0 := hv
  obtain ⟨d', ai, ci, ap, cp, an, cn, ac, cc, al, cl, ed, rfl, hI, hN, hC, hL, hP⟩ := vecAt_open hv
  have C1 := Lib.hid (fun (w1 : World) (hb : Below w.heap.size w w1) (g : Nat) (hg : w1.heap[g]? = some (.cells #[.int .i64 kk, .slice ai items.length ci, .slice ap parts.length cp, .slice an names.length cn, .slice ac cls.length cc, .slice al levels.length cl, .int .i64 code, .int .i64 env] 31 (0, 0))) => (hVV ▸ implAtm1 d kk items parts names cls levels code env ai ap an ac al ci cp cn cc cl g lo hi w1 (hv.below hb hhi) (Nat.le_trans hhi hb.size) hsm hg : Calls Tryd.prog 34 #[.slice (some ⟨g, 0, none⟩) 1 1] w1 (fun e w' => e = .returned (.string (atmS VV)) ∧ Below w1.heap.size w1 w')))
  have ln : names.length ≤ 1048576 := by subst ed; exact hsm.2.2.1
  have CC := Lib.hid (fun (w1 : World) (hb : Below w.heap.size w w1) => implCopyAny names an cn lo hi w1 (hN.below hb hhi) ln)
  have OK := Lib.hid (fun (h : atmS VV = ⟨#[]⟩) => (by have e := atmS_iff.1 h; rw [← hVV] at e; exact atm_ok e.1 e.2 : AtmOk kk items levels))
  have CT := Lib.hid (fun (ok : AtmOk kk items levels) (W : World) (hb : Below w.heap.size w W) => implPlainTexts d kk items parts names cls levels code env _ lo hi W (hv0.below hb hhi) (Nat.le_trans hhi hb.size) ok (tab_below tab hb))
  have XV := Lib.hid (fun (h : atmS VV = ⟨#[]⟩) => (by have e := h; rw [← hVV] at e ⊢; exact cbV_yes e : cbV VV = mkN 2 (itF (fun i => bytI ((txsL kk items levels).getD i noI)) (txsL kk items levels).length) names))
  have OX := Lib.hid (fun (ok : AtmOk kk items levels) (i : Nat) (hi : i < (txsL kk items levels).length) => txsL_ok ok hi)
  have LX := Lib.hid (fun (ok : AtmOk kk items levels) => (by rw [txsL_len]; exact ok.len : (txsL kk items levels).length ≤ 40))
  obtain ⟨X, hX⟩ : ∃ X, txsL kk items levels = X := ⟨_, rfl⟩
  rw [hX] at CT XV OX LX
  clear hv hv0 hI hN hC hL hP hsm ed hVV hX tab
  go_enter Tryd.func10, Tryd.ntmps10
  go_wp2_with fail
  obtain ⟨w1, hw1⟩ : ∃ W, ((w.alloc (.cells #[.int .i64 kk, .slice ai items.length ci, .slice ap parts.length cp, .slice an names.length cn, .slice ac cls.length cc, .slice al levels.length cl, .int .i64 code, .int .i64 env] 31)).alloc (.cells #[.int .i64 0, .slice none 0 0, .slice none 0 0, .slice none 0 0, .slice none 0 0, .slice none 0 0, .int .i64 0, .int .i64 0] 31)).alloc (.cells #[.int .i64 kk, .slice ai items.length ci, .slice ap parts.length cp, .slice an names.length cn, .slice ac cls.length cc, .slice al levels.length cl, .int .i64 code, .int .i64 env] 31) = W := ⟨_, rfl⟩
  have hsz : (w.alloc (.cells #[.int .i64 kk, .slice ai items.length ci, .slice ap parts.length cp, .slice an names.length cn, .slice ac cls.length cc, .slice al levels.length cl, .int .i64 code, .int .i64 env] 31)).heap.size = w.heap.size + 1 := by simp
  have hsz2 : ((w.alloc (.cells #[.int .i64 kk, .slice ai items.length ci, .slice ap parts.length cp, .slice an names.length cn, .slice ac cls.length cc, .slice al levels.length cl, .int .i64 code, .int .i64 env] 31)).alloc (.cells #[.int .i64 0, .slice none 0 0, .slice none 0 0, .slice none 0 0, .slice none 0 0, .slice none 0 0, .int .i64 0, .int .i64 0] 31)).heap.size = w.heap.size + 1 + 1 := by simp
  have B1 := Lib.hid (show Below w.heap.size w w1 from hw1 ▸ ((below1 w _).alloc (by simp) _).alloc (by simp; omega) _)
  have KA := Lib.hid (show w1.heap[w.heap.size]? = some (.cells #[.int .i64 kk, .slice ai items.length ci, .slice ap parts.length cp, .slice an names.length cn, .slice ac cls.length cc, .slice al levels.length cl, .int .i64 code, .int .i64 env] 31 (0, 0)) from hw1 ▸ blk_old (blk_old (blk_new w _ rfl)))
  have KR := Lib.hid (show w1.heap[w.heap.size + 1]? = some (.cells #[.int .i64 0, .slice none 0 0, .slice none 0 0, .slice none 0 0, .slice none 0 0, .slice none 0 0, .int .i64 0, .int .i64 0] 31 (0, 0)) from hw1 ▸ blk_old (hsz ▸ blk_new (w.alloc (.cells #[.int .i64 kk, .slice ai items.length ci, .slice ap parts.length cp, .slice an names.length cn, .slice ac cls.length cc, .slice al levels.length cl, .int .i64 code, .int .i64 env] 31)) (.cells #[.int .i64 0, .slice none 0 0, .slice none 0 0, .slice none 0 0, .slice none 0 0, .slice none 0 0, .int .i64 0, .int .i64 0] 31) rfl))
  have KL := Lib.hid (show w1.heap[w.heap.size + 1 + 1]? = some (.cells #[.int .i64 kk, .slice ai items.length ci, .slice ap parts.length cp, .slice an names.length cn, .slice ac cls.length cc, .slice al levels.length cl, .int .i64 code, .int .i64 env] 31 (0, 0)) from hw1 ▸ hsz2 ▸ blk_new ((w.alloc (.cells #[.int .i64 kk, .slice ai items.length ci, .slice ap parts.length cp, .slice an names.length cn, .slice ac cls.length cc, .slice al levels.length cl, .int .i64 code, .int .i64 env] 31)).alloc (.cells #[.int .i64 0, .slice none 0 0, .slice none 0 0, .slice none 0 0, .slice none 0 0, .slice none 0 0, .int .i64 0, .int .i64 0] 31)) (.cells #[.int .i64 kk, .slice ai items.length ci, .slice ap parts.length cp, .slice an names.length cn, .slice ac cls.length cc, .slice al levels.length cl, .int .i64 code, .int .i64 env] 31) rfl)
  rw [hw1]
  clear hw1 hsz hsz2
  refine (C1.out _ B1.out _ KL.out).mono ?_
  rintro e w2 ⟨rfl, b⟩
  have B2 := Lib.hid (below_then B1.out b)
  have KA := Lib.hid (blk_below b KA.out)
  have KR := Lib.hid (blk_below b KR.out)
  clear b KL
  by_cases hs : atmS VV = ⟨#[]⟩
  · have XV1 := Lib.hid (XV.out hs)
    have XS1 := Lib.hid hs
    have ok := Lib.hid (OK.out hs)
    have hl := LX.out ok.out
    rw [hs]
    have hltR := (Array.getElem?_eq_some_iff.1 KR.out).1
    have hltA := (Array.getElem?_eq_some_iff.1 KA.out).1
    have HL2 := Lib.hid hltR
    obtain ⟨k0, k1, k2, k3, k4, k5, k6, k7⟩ := vec8 KA.out
    clear hs XV LX OK
    go_wp2_with fail
    with_reducible refine (CC.out _ B2.out).mono ?_
    rintro e w3 ⟨v, rfl, ⟨na, nc, FF, rfl, hT, hnd, hrg, hcap⟩, b⟩
    have B3 := Lib.hid (below_then B2.out b)
    have KA := Lib.hid (blk_below b KA.out)
    have KR := Lib.hid (blk_below b KR.out)
    have S3 := Lib.hid b.size
    clear k0 k1 k2 k3 k4 k5 k6 k7 b
    obtain ⟨w4, hw4⟩ : ∃ W, w3.alloc (.cells #[.int .i64 2, .slice none 0 0, .slice none 0 0, .slice na names.length nc, .slice none 0 0, .slice none 0 0, .int .i64 0, .int .i64 0] 31) = W := ⟨_, rfl⟩
    have B4 := Lib.hid (show Below w.heap.size w w4 from hw4 ▸ B3.out.alloc B3.out.size _)
    have KB := Lib.hid (show w4.heap[w3.heap.size]? = some (.cells #[.int .i64 2, .slice none 0 0, .slice none 0 0, .slice na names.length nc, .slice none 0 0, .slice none 0 0, .int .i64 0, .int .i64 0] 31 (0, 0)) from hw4 ▸ blk_new w3 _ rfl)
    have KA4 := Lib.hid (show w4.heap[w.heap.size]? = _ from hw4 ▸ blk_old KA.out)
    have KR4 := Lib.hid (show w4.heap[w.heap.size + 1]? = _ from hw4 ▸ blk_old KR.out)
    have HT4 := Lib.hid (show OwnTxs w4 na names FF from hw4 ▸ hT.kept (fun g hg => (below1 w3 _).block g (hrg g hg).2))
    have SZ4 := Lib.hid (show w4.heap.size = w3.heap.size + 1 by rw [← hw4]; simp)
    have EW4 := Lib.hid hw4
    have HRG := Lib.hid hrg
    have HND := Lib.hid hnd
    have HCP := Lib.hid hcap
    clear hw4 hT hrg hnd hcap
    have hlt3 := (Array.getElem?_eq_some_iff.1 KA.out).1
    obtain ⟨k0, k1, k2, k3, k4, k5, k6, k7⟩ := vec8 KA.out
    go_wp2_with fail
    rw [EW4.out]
    with_reducible refine (CT.out ok.out _ B4.out).mono ?_
    rintro e w0 ⟨⟨sx, cx, rfl, hX⟩, b⟩
    have B0 := Lib.hid (below_then B4.out b)
    have KB := Lib.hid (blk_below b KB.out)
    have KA := Lib.hid (blk_below b KA4.out)
    have KR := Lib.hid (blk_below b KR4.out)
    have HT := Lib.hid (show OwnTxs w0 na names FF from HT4.out.kept (fun g hg => b.block g (by have := HRG.out g hg; have := SZ4.out; omega)))
    have S0 := b.size
    have HX := Lib.hid hX
    clear k0 k1 k2 k3 k4 k5 k6 k7 b hX KA4 KR4 HT4 hlt3 hltA hltR
    have hsz4 := SZ4.out
    have hs3 := S3.out
    have hs2 := B2.out.size
    have hltR := (Array.getElem?_eq_some_iff.1 KR.out).1
    go_wp2
    obtain ⟨b, hb⟩ : ∃ b, w3.heap.size = b := ⟨_, rfl⟩
    rw [hb] at KB hsz4 SZ4 HRG hs3 S3 ⊢
    have hwb : w.heap.size + 1 < b := by have := HL2.out; omega
    have ST := Lib.hid (show AppK w w0 w0 b 2 (itF (fun i => bytI (X.getD i noI)) 0) none 0 0 na names.length nc from AppK.start KB.out B0.out (by omega))
    have AI := Lib.hid (fun (k : Nat) (wr : World) (hk : k < X.length) (hk' : ∀ g, g < w0.heap.size → g ≠ b → wr.heap[g]? = w0.heap[g]?) => HX.out.loopK (.inl (by omega)) (Nat.le_refl _) hk' hk)
    have CI := Lib.hid (fun (k : Nat) (hk : k < X.length) (W : World) (hb : Below w.heap.size w W) => implCntI (X.getD k noI) W (OX.out ok.out k hk))
    obtain ⟨n, hn⟩ : ∃ n, X.length = n := ⟨_, rfl⟩
    rw [hn] at AI CI hl XV1 ⊢
    clear hn hb HX OX ok
    go_loopw [22] (fun i wr => ∃ (k : Nat) (sa : Option Addr) (sn sc : Nat), k ≤ n ∧ i = .int .i64 k ∧ AppK w w0 wr b 2 (itF (fun i => bytI (X.getD i noI)) k) sa sn sc na names.length nc) (fun i _ => n - (intOf i).toNat)
    case atStart => exact ⟨0, none, 0, 0, Nat.zero_le _, rfl, ST.out⟩
    case round =>
      obtain ⟨k, sa, sn, sc, hk, rfl, hap⟩ := hrel
      have AP := Lib.hid hap
      clear hap
      by_cases hlt : k < n
      · obtain ⟨ba, off, rfl, hbB, c0, c1, c2⟩ := AI.out k wr hlt AP.out.kept
        have CK := Lib.hid (fun W hb => CI.out k hlt W hb)
        have NX := Lib.hid (itF_succ (fun i => bytI (X.getD i noI)) k)
        obtain ⟨z, hz⟩ : ∃ z : It, bytI (X.getD k noI) = z := ⟨_, rfl⟩
        rw [hz] at CK NX
        obtain ⟨x, hx⟩ : ∃ x : It, X.getD k noI = x := ⟨_, rfl⟩
        rw [hx] at c0 c1 c2 CK
        have LN := Lib.hid (show (itF (fun i => bytI (X.getD i noI)) k).length ≤ 1048576 by rw [itF_len]; omega)
        have hbw : ba < wr.heap.size := Nat.lt_of_lt_of_le hbB AP.out.size
        have FAR := Lib.hid (fun (q : Nat × TypeId × Array Value) (hq : q ∈ ([(wr.heap.size, 56, #[.int .i64 x.n, .int .i64 x.d, .string x.t]), (b, 31, #[.int .i64 2, .slice sa sn sc, .slice none 0 0, .slice na names.length nc, .slice none 0 0, .slice none 0 0, .int .i64 0, .int .i64 0])] : List (Nat × TypeId × Array Value))) (j : Nat) (hj : (Value.slice sa sn sc).ownBlock = some j) => (by
          simp only [List.mem_cons, List.not_mem_nil, or_false] at hq
          rcases hq with rfl | rfl
          · exact AP.out.far hj (.inr (Nat.le_refl _))
          · exact AP.out.far hj (.inl AP.out.lt) : q.1 ≠ j))
        clear hx hz
        go_wp2
        obtain ⟨w5, hw5⟩ : ∃ W, wr.alloc (.cells #[.int .i64 x.n, .int .i64 x.d, .string x.t] 56) = W := ⟨_, rfl⟩
        have X1 := Lib.hid (show w5.heap[wr.heap.size]? = some (.cells #[.int .i64 x.n, .int .i64 x.d, .string x.t] 56 (0, 0)) from hw5 ▸ blk_new wr _ rfl)
        have AP := Lib.hid (show AppK w w0 w5 b 2 (itF (fun i => bytI (X.getD i noI)) k) sa sn sc na names.length nc from hw5 ▸ AP.out.keep (below1 wr _))
        rw [hw5]
        clear hw5
        have H := Lib.hid (show HeldC w w5 ([(wr.heap.size, 56, #[.int .i64 x.n, .int .i64 x.d, .string x.t]), (b, 31, #[.int .i64 2, .slice sa sn sc, .slice none 0 0, .slice na names.length nc, .slice none 0 0, .slice none 0 0, .int .i64 0, .int .i64 0])]) from ⟨AP.out.below, fun q hq => by
          simp only [List.mem_cons, List.not_mem_nil, or_false] at hq
          rcases hq with rfl | rfl
          · exact X1.out
          · exact AP.out.vec⟩)
        refine run_region (ops := (opsOf Tryd.f10 8)) (S := fun w' => HeldC w w' ([(wr.heap.size, 56, #[.int .i64 x.n, .int .i64 x.d, .string x.t]), (b, 31, #[.int .i64 2, .slice sa sn sc, .slice none 0 0, .slice na names.length nc, .slice none 0 0, .slice none 0 0, .int .i64 0, .int .i64 0])])) [(0, true), (1, true), (2, true), (3, false), (4, false), (5, false), (6, true), (7, false)] (by kernel_rfl) (by kernel_rfl) (by kernel_rfl) (by kernel_rfl) (by kernel_rfl) (fun _ _ _ _ _ h => h) (heldC_drew H.out) ?_
        have H := Lib.hid (heldC_drew H.out)
        have AP := Lib.hid (AP.out.keep (below_drew' (Below.refl _ _)))
        refine runC_partV (b := b) (by kernel_rfl) (show opAt (opsOf Tryd.f10 8) 0 = some (some 26, .fieldAddr 31 (.tmp 5) 1, none) from by kernel_rfl) (by kernel_rfl) (by kernel_rfl) (by kernel_rfl) ?_
        refine runC_cell (b := b) (j := 1) (v := .slice sa sn sc) load_its (show opAt (opsOf Tryd.f10 8) 1 = some (some 27, .load 28 (.tmp 26), none) from by kernel_rfl) (by kernel_rfl) (by kernel_rfl) (by kernel_rfl) (List.Mem.tail _ (List.Mem.head _)) rfl ?_
        refine runC_itm (b := wr.heap.size) (show opAt (opsOf Tryd.f10 8) 2 = some (some 28, .load 56 (.tmp 7), none) from by kernel_rfl) (by kernel_rfl) (by kernel_rfl) (by kernel_rfl) (List.Mem.head _) ?_
        refine run_call (args := [.agg #[.int .i64 x.n, .int .i64 x.d, .string x.t]]) (show opAt (opsOf Tryd.f10 8) 3 = some (some 29, .call { callee := .value (.func 37), args := [(.tmp 28)].toArray, argTypes := [56].toArray }, none) from by kernel_rfl) (by kernel_rfl) (by kernel_rfl) (by kernel_rfl) (by kernel_rfl) ?_
        refine (CK.out _ H.out.1).mono ?_
        rintro en rw1 ⟨rfl, hb⟩
        refine ⟨_, rfl, heldC_call H.out hb, ?_⟩
        have H := Lib.hid (heldC_call H.out hb)
        have AP := Lib.hid (AP.out.keep hb)
        clear hb
        refine tail_item2 z (show opAt (opsOf Tryd.f10 8) 4 = some (some 30, .buildSlice 28 1 #[(0, (.tmp 29))], none) from by kernel_rfl) (by kernel_rfl) (by kernel_rfl) (show opAt (opsOf Tryd.f10 8) 5 = some (some 31, .call { callee := .builtin .append, args := [(.tmp 27), (.tmp 30)].toArray, argTypes := [28, 28].toArray }, none) from by kernel_rfl) (by kernel_rfl) (fun _ => by kernel_rfl) (show opAt (opsOf Tryd.f10 8) 6 = some (some 32, .fieldAddr 31 (.tmp 5) 1, none) from by kernel_rfl) (by kernel_rfl) (by kernel_rfl) (fun _ _ => by kernel_rfl) (show opAt (opsOf Tryd.f10 8) 7 = some (none, .store 28 (.tmp 32) (.tmp 31), none) from by kernel_rfl) (by kernel_rfl) (by kernel_rfl) H.out AP.out.row LN.out AP.out.size (Nat.le_trans AP.out.ge (Nat.le_of_lt AP.out.lt)) (List.Mem.tail _ (List.Mem.head _)) rfl AP.out.lt AP.out.ge (fun q hq => FAR.out q hq) ?_
        rintro v' w2 ⟨sa, sn, sc, rfl⟩ hK hO hB hZ hR hG
        simp only [putAll, Act.put, List.setIfInBounds_toArray, List.set_cons_zero, List.set_cons_succ]
        have AN := Lib.hid (AP.out.next hK hO hB hZ hG)
        clear hK hO hB hR hG hZ H FAR LN
        go_wp2
        go_roundw
        case rel => exact ⟨k + 1, sa, sn, sc, by omega, by go_num, NX.out ▸ AN.out⟩
        case measure => simp [intOf]; omega
      · obtain rfl : k = n := by omega
        have K1 := Lib.hid AP.out.vec
        have K0 := Lib.hid (AP.out.blk KR.out (by omega))
        have FN := Lib.hid (AP.out.fin (r := w.heap.size + 1) HT.out HND.out (fun g hg => by have := HRG.out g hg; have := HL2.out; have := AP.out.lt; omega) HCP.out (by have := HL2.out; have := AP.out.lt; omega))
        obtain ⟨k0, k1, k2, k3, k4, k5, k6, k7⟩ := vec8 K1.out
        obtain ⟨z0, z1, z2, z3, z4, z5, z6, z7⟩ := vec8 K0.out
        obtain ⟨f0, f1, f2, f3, f4, f5, f6, f7⟩ := free8 K0.out
        go_wp2
        rw [XV1.out, XS1.out]
        exact vec_endS rfl rfl rfl rfl K0.out FN.out.withS
  · have XV1 := Lib.hid (cbV_no hs)
    obtain ⟨R, hR⟩ : ∃ R, atmS VV = R := ⟨_, rfl⟩
    have XS1 := Lib.hid hR
    rw [hR] at hs ⊢
    have hRb : (R.toList == []) = false := by have h := str_not hs; rw [ByteArray.toList_eq ⟨#[]⟩] at h; exact h
    clear hs hR
    have K0 := Lib.hid KR.out
    obtain ⟨z0, z1, z2, z3, z4, z5, z6, z7⟩ := vec8 K0.out
    obtain ⟨f0, f1, f2, f3, f4, f5, f6, f7⟩ := free8 K0.out
    go_wp2
    rw [XV1.out, XS1.out]
    exact vec_endS rfl rfl rfl rfl K0.out (zeroS _ w _ (put8_below B2.out (Nat.le_succ _)))
end Go.Proofs.YtjpdnabfpiengaaDoor

/- l5Plain of the reference. -/
namespace Go.Proofs.YtjpdnabfpiengaaDoor
open Go.RowKit
set_option maxRecDepth 100000
set_option linter.unusedVariables false

theorem build_vI {w : World} {k : Int} {a : Option Addr} {n m : Nat} : (Instr.build 31 #[(0, .int .i64 k), (1, .slice a n m)]).run Tryd.prog w = .ok (.agg #[.int .i64 k, .slice a n m, .slice none 0 0, .slice none 0 0, .slice none 0 0, .slice none 0 0, .int .i64 0, .int .i64 0]) w := by
  kernel_rfl
theorem addr_itemJ {w' : World} {b o f : Nat} (hf : f < 3) : (Instr.fieldAt 56 (.pointer (some ⟨b, o, none⟩)) f).run Tryd.prog w' = .ok (.pointer (some ⟨b, o + f, none⟩)) w' := by
  rcases (show f = 0 ∨ f = 1 ∨ f = 2 by omega) with rfl | rfl | rfl <;> simp [Instr.fieldAt, go_sem] <;> rfl
section
variable {ops : Array Oper} {Q : Exit → Act → World → Prop} {S : World → Prop}
variable {r : List (Nat × Bool)} {a : Act} {e : List (Nat × Value)} {w : World} {i d : Nat} {g : Option (Nat × Bool)} {v : Value}
theorem runC_partJ {x : Operand} {f b o : Nat} (hf : Nat.blt f 3 = true) (ho : opAt ops i = some (some d, .fieldAddr 56 x f, g)) (hd : Nat.blt d a.tmps.size = true) (hw : wantE ops a e g = some true)
    (hx : lookO a e x = .pointer (some ⟨b, o, none⟩)) (h : RunE Tryd.prog ops Q S r a ((d, .pointer (some ⟨b, o + f, none⟩)) :: e) w) : RunE Tryd.prog ops Q S ((i, true) :: r) a e w :=
  run_addr ho hd hw hx (fun w' => addr_itemJ (Nat.le_of_ble_eq_true hf)) h
theorem run_bldI {k : Int} {z x : Operand} {sa : Option Addr} {n m : Nat} (ho : opAt ops i = some (some d, .build 31 #[(0, z), (1, x)], g)) (hd : Nat.blt d a.tmps.size = true) (hw : wantE ops a e g = some true)
    (hz : lookO a e z = .int .i64 k) (hx : lookO a e x = .slice sa n m)
    (h : RunE Tryd.prog ops Q S r a ((d, .agg #[.int .i64 k, .slice sa n m, .slice none 0 0, .slice none 0 0, .slice none 0 0, .slice none 0 0, .int .i64 0, .int .i64 0]) :: e) w) : RunE Tryd.prog ops Q S ((i, true) :: r) a e w :=
  run_yield ho hd hw (fun o w' h1 _ => by
    unfold execOp
    simp only [h1, List.map_toArray, List.map_cons, List.map_nil, hx, hz]
    exact run_v build_vI) h
/-- A slice of no items. -/
theorem run_mk0I (ho : opAt ops i = some (some d, .buildSlice 28 0 #[], g)) (hd : Nat.blt d a.tmps.size = true) (hw : wantE ops a e g = some true)
    (h : ∀ W n, W = w.alloc (.cells #[] 56) → n = w.heap.size → S W ∧ RunE Tryd.prog ops Q S r a ((d, .slice (some ⟨n, 0, none⟩) 0 0) :: e) W) : RunE Tryd.prog ops Q S ((i, false) :: r) a e w := by
  obtain ⟨hS, hR⟩ := h _ _ rfl rfl
  obtain ⟨ie, hie, _⟩ := info_parts infoItm3
  refine run_eff (op := .buildSlice 28 0 #[]) ho hd hw (fun o h1 => ?_) hS hR
  unfold execOp
  have hb := run_buildSlice0 (P := Tryd.prog) w 28 56 ie Tryd.underlying28 hie
  simp only [h1, List.map_toArray, List.map_nil, Sem.run_bind, hb, Result.andThen_ok]
  rfl
end
/-- What l5Plain works on: the vector's variable, its items in a row of their own. -/
structure PlnU (W0 wx : World) (gu : Nat) (kc : Int) (v' : Value) (l : List It) : Prop where
  blk : wx.heap[gu]? = some (.cells #[.int .i64 kc, v', .slice none 0 0, .slice none 0 0, .slice none 0 0, .slice none 0 0, .int .i64 0, .int .i64 0] 31 (0, 0))
  row : wx.ownsRow W0.heap.size 56 3 v' l.length (itCells l)
  ne : v'.ownBlock ≠ some gu
  ge : W0.heap.size ≤ gu
  below : Below W0.heap.size W0 wx
theorem PlnU.keep {W0 wx w1 : World} {gu : Nat} {kc : Int} {v' : Value} {l : List It} (h : PlnU W0 wx gu kc v' l) (hb : Below wx.heap.size wx w1) : PlnU W0 w1 gu kc v' l :=
  ⟨blk_below hb h.blk, ownsRow_below h.row hb, h.ne, h.ge, below_then h.below hb⟩
theorem plnU_end {W0 w : World} {gu : Nat} {kk : Int} {sa : Option Addr} {n c : Nat} {l : List It} {C : Array Value} (hb : w.heap[gu]? = some (.cells C 31 (0, 0))) (hr : w.ownsRow W0.heap.size 56 3 (.slice sa n c) l.length (itCells l)) (ne : (Value.slice sa n c).ownBlock ≠ some gu) (ge : W0.heap.size ≤ gu) (hB : Below W0.heap.size W0 w) :
    PlnU W0 (w.setRow gu #[.int .i64 kk, .slice sa n c, .slice none 0 0, .slice none 0 0, .slice none 0 0, .slice none 0 0, .int .i64 0, .int .i64 0]) gu kk (.slice sa n c) l :=
  ⟨row_set hb, ownsRow_kept hr (fun g hg => row_old rfl (fun e => ne (by rw [hg, e]))), ne, ge, below_row hB ge _⟩
theorem row_formS {w : World} {B n : Nat} {t : TypeId} {size : Nat} {v : Value} {xs : List Value} (h : w.ownsRow B t size v n xs) : ∃ sa c, v = .slice sa n c := by
  obtain ⟨_, ⟨e, h0⟩ | ⟨g, cap, cur, e, _⟩⟩ := h
  · exact ⟨_, _, by rw [e, h0]⟩
  · exact ⟨_, _, e⟩
theorem itCells_set (z : It) : ∀ (l : List It) (k : Nat), k < l.length → itCells (l.set k z) = (itCells l).take (k * 3) ++ [Value.int .i64 z.n, .int .i64 z.d, .string z.t] ++ (itCells l).drop (k * 3 + 3)
  | [], k, h => absurd h (Nat.not_lt_zero _)
  | x :: l, 0, _ => by simp [itCells]
  | x :: l, k + 1, h => by
    have ih := itCells_set z l k (by simpa using h)
    have e : (k + 1) * 3 = k * 3 + 3 := by omega
    rw [List.set_cons_succ]
    simp only [itCells, e]
    rw [ih]
    simp
theorem row_setI {w : World} {B g n c k : Nat} {cur : Array Value} {l : List It} {z : It} (h : w.ownsRow B 56 3 (.slice (some ⟨g, 0, none⟩) n c) l.length (itCells l)) (hg : w.heap[g]? = some (.cells cur 56 (0, 0))) (hk : k < l.length) :
    k * 3 + 3 ≤ cur.size ∧ (w.setRow g (cur.toList.take (k * 3) ++ [Value.int .i64 z.n, .int .i64 z.d, .string z.t] ++ cur.toList.drop (k * 3 + 3)).toArray).ownsRow B 56 3 (.slice (some ⟨g, 0, none⟩) n c) l.length (itCells (l.set k z)) := by
  obtain ⟨h0, ⟨e, _⟩ | ⟨g', cap, cur', e, hB, hb, hn, hm, hs, ht⟩⟩ := h
  · cases e
  · simp only [Value.slice.injEq, Option.some.injEq, Addr.mk.injEq] at e
    obtain ⟨⟨rfl, _⟩, rfl, rfl⟩ := e
    rw [hb] at hg
    simp only [Option.some.injEq, Obj.cells.injEq] at hg
    obtain ⟨rfl, _⟩ := hg
    have h3 : l.length * 3 ≤ c * 3 := by omega
    refine ⟨by omega, ?_, .inr ⟨g, c, _, rfl, hB, setRow_heap _ _ _ _ _ _ hb, hn, hm, ?_, ?_⟩⟩
    · rw [itCells_len, List.length_set]
    · simp [hs]; omega
    · have e1 : cur'.toList.take (k * 3) = (itCells l).take (k * 3) := by rw [← ht, List.take_take, Nat.min_eq_left (by omega)]
      have e2 : (cur'.toList.drop (k * 3 + 3)).take (l.length * 3 - (k * 3 + 3)) = (itCells l).drop (k * 3 + 3) := by rw [← ht, List.drop_take]
      have hl : (cur'.toList.take (k * 3) ++ [Value.int .i64 z.n, .int .i64 z.d, .string z.t]).length = k * 3 + 3 := by simp [hs]; omega
      rw [itCells_set z l k hk, ← e1, ← e2]
      show List.take _ (cur'.toList.take (k * 3) ++ [Value.int .i64 z.n, .int .i64 z.d, .string z.t] ++ cur'.toList.drop (k * 3 + 3)) = _
      rw [List.take_append, hl, List.take_of_length_le (by rw [hl]; omega)]
theorem store_itemAt {w : World} {g o : Nat} {cur : Array Value} {x y z : Value} (h : w.heap[g]? = some (.cells cur 56 (0, 0))) (hl : o + 3 ≤ cur.size) (hx : x.oneCell' = true) (hy : y.oneCell' = true) (hz : z.oneCell' = true) :
    (Instr.storeAt 56 (.pointer (some ⟨g, o, none⟩)) (.agg #[x, y, z])).run Tryd.prog w = .ok () (w.setRow g (cur.toList.take o ++ [x, y, z] ++ cur.toList.drop (o + 3)).toArray) := by
  have q := run_storeCells_at (P := Tryd.prog) g o 56 [x, y, z] 0 cur w h (by simp; omega) (fun v hv => by
    simp only [List.mem_cons, List.not_mem_nil, or_false] at hv
    rcases hv with rfl | rfl | rfl
    · exact hx
    · exact hy
    · exact hz)
  obtain ⟨ie, hie, _, hsz, _⟩ := info_parts infoItm3
  simp only [Instr.storeAt, Instr.sureAddr, Sem.run_bind, Sem.run_pure, Result.andThen_ok]
  simp only [Nat.add_zero, List.length_cons, List.length_nil, Nat.zero_add] at q
  simp [storeVar, sizeOf, typeInfo, hie, Value.cells, hsz, q]
/-- The first k items plain. -/
def mixP (levels : List ByteArray) (items : List It) (k : Nat) : List It := itF (fun i => if i < k then plnI levels (items.getD i noI) else items.getD i noI) items.length
theorem mixP_len (levels : List ByteArray) (items : List It) (k : Nat) : (mixP levels items k).length = items.length := itF_len _ _
theorem mixP_zero (levels : List ByteArray) (items : List It) : mixP levels items 0 = items := by
  apply List.ext_getElem
  · exact mixP_len _ _ _
  · intro i h1 h2
    simp [mixP, itF, List.getD_eq_getElem?_getD, h2]
theorem mixP_full (levels : List ByteArray) (items : List It) : mixP levels items items.length = plnL levels items := by
  unfold mixP plnL itF
  exact List.map_congr_left (fun i hi => if_pos (List.mem_range.1 hi))
theorem mixP_at {levels : List ByteArray} {items : List It} {k : Nat} (h : k < items.length) : (mixP levels items k).getD k noI = items.getD k noI := by
  unfold mixP
  rw [itF_getD _ h, if_neg (Nat.lt_irrefl k)]
theorem mixP_set {levels : List ByteArray} {items : List It} {k : Nat} (h : k < items.length) : (mixP levels items k).set k (plnI levels (items.getD k noI)) = mixP levels items (k + 1) := by
  apply List.ext_getElem
  · rw [List.length_set, mixP_len, mixP_len]
  · intro i h1 h2
    rw [List.getElem_set]
    simp only [mixP, itF, List.getElem_map, List.getElem_range]
    by_cases e : k = i
    · subst e; simp
    · rw [if_neg e]
      by_cases h3 : i < k
      · rw [if_pos h3, if_pos (by omega)]
      · rw [if_neg h3, if_neg (by omega)]
theorem mixP_same {levels : List ByteArray} {items : List It} {k : Nat} (e : plnI levels (items.getD k noI) = items.getD k noI) : mixP levels items (k + 1) = mixP levels items k := by
  unfold mixP itF
  refine List.map_congr_left (fun i _ => ?_)
  by_cases h : i = k
  · subst h; rw [if_pos (Nat.lt_succ_self i), if_neg (Nat.lt_irrefl i), e]
  · by_cases h3 : i < k
    · rw [if_pos h3, if_pos (by omega)]
    · rw [if_neg h3, if_neg (by omega)]
theorem PlnU.fin {w W0 wr : World} {gu r n c : Nat} {kc : Int} {sa : Option Addr} {l : List It} (h : PlnU W0 wr gu kc (.slice sa n c) l) (hr : w.heap.size ≤ r ∧ r < W0.heap.size) (hB : Below w.heap.size w W0) :
    ResV 1 (vecOf kc l) w (.returned (.agg #[.int .i64 kc, .slice sa n c, .slice none 0 0, .slice none 0 0, .slice none 0 0, .slice none 0 0, .int .i64 0, .int .i64 0])) (put8 wr r 0 (.int .i64 kc) (.slice sa n c) (.slice none 0 0) (.slice none 0 0) (.slice none 0 0) (.slice none 0 0) (.int .i64 0) (.int .i64 0)) := by
  have ho := own_vecOf (k := kc) (lo := W0.heap.size) h.row (Nat.le_refl _)
  refine ⟨_, rfl, (ho.put8 hr.2 _ _ _ _ _ _ _ _).wide (by omega) ?_, put8_below (below_then hB h.below) hr.1⟩
  rw [put8_size]
  exact Nat.le_refl _
theorem PlnU.set0 {W0 wr : World} {gu : Nat} {kc k' : Int} {v' : Value} {l : List It} (h : PlnU W0 wr gu kc v' l) : PlnU W0 (wr.setCell ⟨gu, 0, none⟩ (.int .i64 k')) gu k' v' l :=
  ⟨Joins.block_setCell h.blk _, ownsRow_kept h.row (fun g hg => Below.heap_setCell _ _ _ _ (fun e => h.ne (by rw [hg, e]))), h.ne, h.ge, h.below.setCell (p := ⟨gu, 0, none⟩) h.ge _⟩
/-- The row, opened. -/
theorem PlnU.cells {W0 wr : World} {gu n c k : Nat} {kc : Int} {sa : Option Addr} {l : List It} (h : PlnU W0 wr gu kc (.slice sa n c) l) (hk : k < l.length) : ∃ g cur, sa = some ⟨g, 0, none⟩ ∧ n = l.length ∧ W0.heap.size ≤ g ∧ g ≠ gu ∧ wr.heap[g]? = some (.cells cur 56 (0, 0)) ∧ cur[k * 3]? = some (.int .i64 (l.getD k noI).n) ∧ cur[k * 3 + 1]? = some (.int .i64 (l.getD k noI).d) ∧ cur[k * 3 + 2]? = some (.string (l.getD k noI).t) := by
  have hne := h.ne
  obtain ⟨h0, ⟨_, e⟩ | ⟨g, cap, cur, e, hB, hb, hn, hm, hs, ht⟩⟩ := h.row
  · omega
  · simp only [Value.slice.injEq] at e
    obtain ⟨rfl, rfl, rfl⟩ := e
    have e3 : ∀ j, j < l.length * 3 → cur[j]? = (itCells l)[j]? := fun j hj => by rw [← ht, List.getElem?_take, if_pos hj, Array.getElem?_toList]
    obtain ⟨q0, q1, q2⟩ := itCells_at l k hk
    exact ⟨g, cur, rfl, rfl, hB, fun e => hne (by rw [← e]; rfl), hb, (e3 _ (by omega)).trans q0, (e3 _ (by omega)).trans q1, (e3 _ (by omega)).trans q2⟩
theorem PlnU.put {W0 wr : World} {gu n c k g o : Nat} {kc : Int} {l : List It} {cur : Array Value} {z : It} (h : PlnU W0 wr gu kc (.slice (some ⟨g, 0, none⟩) n c) l) (hg : wr.heap[g]? = some (.cells cur 56 (0, 0))) (hk : k < l.length) (ho : o = k * 3) : o + 3 ≤ cur.size ∧ PlnU W0 (wr.setRow g (cur.toList.take o ++ [Value.int .i64 z.n, .int .i64 z.d, .string z.t] ++ cur.toList.drop (o + 3)).toArray) gu kc (.slice (some ⟨g, 0, none⟩) n c) (l.set k z) := by
  subst ho
  obtain ⟨h1, h2⟩ := row_setI (z := z) h.row hg hk
  have hge := (h.row.lt g rfl).1
  refine ⟨h1, row_old h.blk (fun e => h.ne (by rw [e]; rfl)), ?_, h.ne, h.ge, below_row h.below hge _⟩
  rw [List.length_set]
  exact h2
theorem plnL_no {levels : List ByteArray} {items : List It} (h : levels.length = 0) : plnL levels items = items := by
  apply List.ext_getElem
  · exact plnL_len _ _
  · intro i h1 h2
    have e : plnI levels (items.getD i noI) = items.getD i noI := pln_same (.inr h)
    simp only [plnL, itF, List.getElem_map, List.getElem_range]
    rw [e]
    simp [List.getD_eq_getElem?_getD, h2]
set_option maxHeartbeats 8000000 in
theorem specPlain (d : Nat) (kk : Int) (items : List It) (parts : List Vec) (names cls levels : List ByteArray) (code env : Int) (val : Value) (lo hi : Nat) (w : World) (hv : VecAt lo hi w d (.mk kk items parts names cls levels code env) val) (hhi : hi ≤ w.heap.size) (ok : AtmOk kk items levels) :
    Calls Tryd.prog 30 #[val] w (ResV 1 (vecOf (plnK kk levels) (plnL levels items)) w) := by
  obtain ⟨d', ai, ci, ap, cp, an, cn, ac, cc, al, cl, ed, rfl, hI, hN, hC, hL, hP⟩ := vecAt_open hv
  have NI := Lib.hid (fun (W : World) (hb : Below w.heap.size w W) (hp : 0 < items.length) => show ∃ ad : Addr, ai = some ad ∧ ∀ j u, (itCells items)[j]? = some u → W.cell? (ad.add j) = some u from by
    have h := hI.below hb hhi
    obtain ⟨b, off, rfl⟩ := items_some h hp
    exact ⟨_, rfl, itCells_in h⟩)
  have li := ok.len
  obtain ⟨ieI, hieI⟩ := info_parts infoItm3
  clear hv hP hN hC ed
  obtain ⟨W0, hW0⟩ : ∃ W, (w.alloc (.cells #[.int .i64 kk, .slice ai items.length ci, .slice ap parts.length cp, .slice an names.length cn, .slice ac cls.length cc, .slice al levels.length cl, .int .i64 code, .int .i64 env] 31)).alloc (.cells #[.int .i64 0, .slice none 0 0, .slice none 0 0, .slice none 0 0, .slice none 0 0, .slice none 0 0, .int .i64 0, .int .i64 0] 31) = W := ⟨_, rfl⟩
  have hsz : (w.alloc (.cells #[.int .i64 kk, .slice ai items.length ci, .slice ap parts.length cp, .slice an names.length cn, .slice ac cls.length cc, .slice al levels.length cl, .int .i64 code, .int .i64 env] 31)).heap.size = w.heap.size + 1 := by simp
  have BW0 := Lib.hid (show Below w.heap.size w W0 from hW0 ▸ below2 w _ _)
  have SW0 := Lib.hid (show W0.heap.size = w.heap.size + 2 by rw [← hW0]; simp)
  have KARG0 := Lib.hid (show W0.heap[w.heap.size]? = some (.cells #[.int .i64 kk, .slice ai items.length ci, .slice ap parts.length cp, .slice an names.length cn, .slice ac cls.length cc, .slice al levels.length cl, .int .i64 code, .int .i64 env] 31 (0, 0)) from hW0 ▸ blk_old (blk_new w _ rfl))
  have KR0 := Lib.hid (show W0.heap[w.heap.size + 1]? = some (.cells #[.int .i64 0, .slice none 0 0, .slice none 0 0, .slice none 0 0, .slice none 0 0, .slice none 0 0, .int .i64 0, .int .i64 0] 31 (0, 0)) from hW0 ▸ blk_new _ _ hsz.symm)
  have EW := Lib.hid hW0
  clear hW0 hsz
  have NI := Lib.hid (fun (W : World) (hb : Below W0.heap.size W0 W) => NI.out W (below_then BW0.out hb))
  have H := Lib.hid (show HeldC W0 W0 ([(w.heap.size, 31, #[.int .i64 kk, .slice ai items.length ci, .slice ap parts.length cp, .slice an names.length cn, .slice ac cls.length cc, .slice al levels.length cl, .int .i64 code, .int .i64 env])]) from ⟨Below.refl _ _, fun q hq => by obtain rfl := List.mem_singleton.1 hq; exact KARG0.out⟩)
  go_enter Tryd.func30, Tryd.ntmps30
  go_upto_region 1 with (fail)
  rw [EW.out]
  go_cut [3] from 5 to 11 (fun pu wx => ∃ (gu : Nat) (sa : Option Addr) (c : Nat), pu = .pointer (some ⟨gu, 0, none⟩) ∧ PlnU W0 wx gu kk (.slice sa items.length c) items)
  case first =>
    refine run_regionT (ops := (opsOf Tryd.f30 1)) (S := fun w' => HeldC W0 w' ([(w.heap.size, 31, #[.int .i64 kk, .slice ai items.length ci, .slice ap parts.length cp, .slice an names.length cn, .slice ac cls.length cc, .slice al levels.length cl, .int .i64 code, .int .i64 env])])) (.fork [(0, true), (1, true), (3, true), (4, true)] 2 (.fork [] 5 (.leaf [(6, true), (7, false), (8, false)]) 7 (.leaf [(5, false), (6, true), (8, false)])) 7 (.leaf [(2, false), (5, false), (6, true), (8, false)])) (by kernel_rfl) (by kernel_rfl) (by kernel_rfl) (by kernel_rfl) (by kernel_rfl) (fun _ _ _ _ _ h => h) (heldC_drew H.out) ?_
    have H := Lib.hid (heldC_drew H.out)
    refine runC_partV (b := w.heap.size) (by kernel_rfl) (show opAt (opsOf Tryd.f30 1) 0 = some (some 5, .fieldAddr 31 (.tmp 1) 0, none) from by kernel_rfl) (by kernel_rfl) (by kernel_rfl) (by kernel_rfl) ?_
    refine runC_cell (b := w.heap.size) (j := 0) (v := .int .i64 kk) load_int (show opAt (opsOf Tryd.f30 1) 1 = some (some 6, .load 3 (.tmp 5), none) from by kernel_rfl) (by kernel_rfl) (by kernel_rfl) (by kernel_rfl) (List.Mem.head _) rfl ?_
    refine runC_partV (b := w.heap.size) (by kernel_rfl) (show opAt (opsOf Tryd.f30 1) 3 = some (some 8, .fieldAddr 31 (.tmp 1) 1, none) from by kernel_rfl) (by kernel_rfl) (by kernel_rfl) (by kernel_rfl) ?_
    refine runC_cell (b := w.heap.size) (j := 1) (v := .slice ai items.length ci) load_its (show opAt (opsOf Tryd.f30 1) 4 = some (some 9, .load 28 (.tmp 8), none) from by kernel_rfl) (by kernel_rfl) (by kernel_rfl) (by kernel_rfl) (List.Mem.head _) rfl ?_
    refine run_fork H.out (by kernel_rfl) (by kernel_rfl) ?_ ?_
    · refine run_mk0I (show opAt (opsOf Tryd.f30 1) 2 = some (some 7, .buildSlice 28 0 #[], none) from by kernel_rfl) (by kernel_rfl) (by kernel_rfl) (fun W2 n2 hW2 hn2 => ?_)
      subst hW2
      have KE := Lib.hid (show (_ : World).ownsRow W0.heap.size 56 3 (.slice (some ⟨n2, 0, none⟩) 0 0) 0 [] from ⟨by simp, .inr ⟨n2, 0, #[], rfl, by rw [hn2]; exact H.out.1.size, blk_new _ _ hn2, Nat.le_refl _, Nat.zero_le _, by simp, by simp⟩⟩)
      refine ⟨heldC_call H.out (below1 _ (.cells #[] 56)), ?_⟩
      have H := Lib.hid (heldC_call H.out (below1 _ (.cells #[] 56)))
      clear hn2
      refine run_fork H.out (by kernel_rfl) (by kernel_rfl) ?_ ?_
      · refine run_appM (P := Tryd.prog) (show opAt (opsOf Tryd.f30 1) 5 = some (some 10, .call { callee := .builtin .append, args := [(.tmp 7), (.tmp 9)].toArray, argTypes := [28, 28].toArray }, none) from by kernel_rfl) (by kernel_rfl) (by kernel_rfl) (by kernel_rfl) ai items.length ci (by kernel_rfl) W0.heap.size ieI _ 3 32 Tryd.underlying28 hieI.1 hieI.2.1 hieI.2.2.1 hieI.2.2.2 rfl (by decide) 0 [] KE.out (fun _ => rfl) (itCells items) (itCells_len _) (NI.out _ H.out.1) (itCells_one items) (by unfold maxLen; omega) (by omega) H.out.1.size (fun v' W5 hO hg hwh => ?_)
        rw [Nat.zero_add, List.nil_append] at hO
        obtain ⟨sa, c, rfl⟩ := row_formS hO
        have HG := Lib.hid (heldC_grown H.out hg (fun k hk => ⟨(KE.out.lt k hk).1, fun q hq => by obtain rfl := List.mem_singleton.1 hq; have := (KE.out.lt k hk).1; have := SW0.out; simp only; omega⟩))
        refine ⟨HG.out, ?_⟩
        have H := HG
        have RW := Lib.hid hO
        clear HG hO hg hwh KE
        refine run_bldI (k := kk) (sa := sa) (n := items.length) (m := c) (show opAt (opsOf Tryd.f30 1) 6 = some (some 11, .build 31 #[(0, (.tmp 6)), (1, (.tmp 10))], none) from by kernel_rfl) (by kernel_rfl) (by kernel_rfl) (by kernel_rfl) (by kernel_rfl) ?_
        refine run_new (C := #[.int .i64 0, .slice none 0 0, .slice none 0 0, .slice none 0 0, .slice none 0 0, .slice none 0 0, .int .i64 0, .int .i64 0]) (show opAt (opsOf Tryd.f30 1) 7 = some (some 3, .alloc 31, none) from by kernel_rfl) (by kernel_rfl) (by kernel_rfl) new_vec (fun W7 n7 hW7 hn7 => ?_)
        subst hW7
        have NV := Lib.hid (⟨blk_new _ _ hn7⟩ : NewB n7 31 #[.int .i64 0, .slice none 0 0, .slice none 0 0, .slice none 0 0, .slice none 0 0, .slice none 0 0, .int .i64 0, .int .i64 0] _)
        have GV := Lib.hid (by rw [hn7]; exact H.out.1.size : W0.heap.size ≤ n7)
        have NE := Lib.hid (fun e => by have := (RW.out.lt n7 e).2; omega : (Value.slice sa items.length c).ownBlock ≠ some n7)
        have RW := Lib.hid (ownsRow_below RW.out (below1 _ (.cells #[.int .i64 0, .slice none 0 0, .slice none 0 0, .slice none 0 0, .slice none 0 0, .slice none 0 0, .int .i64 0, .int .i64 0] 31)))
        refine ⟨heldC_call H.out (below1 _ (.cells #[.int .i64 0, .slice none 0 0, .slice none 0 0, .slice none 0 0, .slice none 0 0, .slice none 0 0, .int .i64 0, .int .i64 0] 31)), ?_⟩
        have H := Lib.hid (heldC_call H.out (below1 _ (.cells #[.int .i64 0, .slice none 0 0, .slice none 0 0, .slice none 0 0, .slice none 0 0, .slice none 0 0, .int .i64 0, .int .i64 0] 31)))
        clear hn7
        refine run_last (by kernel_rfl) (show opAt (opsOf Tryd.f30 1) 8 = some (none, .store 31 (.tmp 3) (.tmp 11), none) from by kernel_rfl) (by kernel_rfl) (by kernel_rfl) (by kernel_rfl) (store_vec8 NV.out.out (show (#[.int .i64 kk, .slice sa items.length c, .slice none 0 0, .slice none 0 0, .slice none 0 0, .slice none 0 0, .int .i64 0, .int .i64 0] : Array Value).all (·.oneCell') = true from by simp [Value.oneCell'])) ?_
        refine run_done ?_
        simp only [putAll, Act.put, List.setIfInBounds_toArray, List.set_cons_zero, List.set_cons_succ]
        have PU := Lib.hid (plnU_end (kk := kk) NV.out.out RW.out NE.out GV.out H.out.1)
        clear NV RW NE GV H
        go_wp2_with fail
        go_meet
        exact ⟨n7, sa, c, rfl, PU.out⟩
      · refine run_new (C := #[.int .i64 0, .slice none 0 0, .slice none 0 0, .slice none 0 0, .slice none 0 0, .slice none 0 0, .int .i64 0, .int .i64 0]) (show opAt (opsOf Tryd.f30 1) 7 = some (some 3, .alloc 31, none) from by kernel_rfl) (by kernel_rfl) (by kernel_rfl) new_vec (fun W7 n7 hW7 hn7 => ?_)
        subst hW7
        have NV := Lib.hid (⟨blk_new _ _ hn7⟩ : NewB n7 31 #[.int .i64 0, .slice none 0 0, .slice none 0 0, .slice none 0 0, .slice none 0 0, .slice none 0 0, .int .i64 0, .int .i64 0] _)
        have GV := Lib.hid (by rw [hn7]; exact H.out.1.size : W0.heap.size ≤ n7)
        have NE := Lib.hid (fun e => by have := (KE.out.lt n2 rfl).2; omega : n2 ≠ n7)
        have KE := Lib.hid (ownsRow_below KE.out (below1 _ (.cells #[.int .i64 0, .slice none 0 0, .slice none 0 0, .slice none 0 0, .slice none 0 0, .slice none 0 0, .int .i64 0, .int .i64 0] 31)))
        refine ⟨heldC_call H.out (below1 _ (.cells #[.int .i64 0, .slice none 0 0, .slice none 0 0, .slice none 0 0, .slice none 0 0, .slice none 0 0, .int .i64 0, .int .i64 0] 31)), ?_⟩
        have H := Lib.hid (heldC_call H.out (below1 _ (.cells #[.int .i64 0, .slice none 0 0, .slice none 0 0, .slice none 0 0, .slice none 0 0, .slice none 0 0, .int .i64 0, .int .i64 0] 31)))
        clear hn7
        have LT7 := Lib.hid (Array.getElem?_eq_some_iff.1 NV.out.out).1
        refine run_appM (P := Tryd.prog) (show opAt (opsOf Tryd.f30 1) 5 = some (some 10, .call { callee := .builtin .append, args := [(.tmp 7), (.tmp 9)].toArray, argTypes := [28, 28].toArray }, none) from by kernel_rfl) (by kernel_rfl) (by kernel_rfl) (by kernel_rfl) ai items.length ci (by kernel_rfl) W0.heap.size ieI _ 3 32 Tryd.underlying28 hieI.1 hieI.2.1 hieI.2.2.1 hieI.2.2.2 rfl (by decide) 0 [] KE.out (fun _ => rfl) (itCells items) (itCells_len _) (NI.out _ H.out.1) (itCells_one items) (by unfold maxLen; omega) (by omega) H.out.1.size (fun v' W5 hO hg hwh => ?_)
        rw [Nat.zero_add, List.nil_append] at hO
        obtain ⟨sa, c, rfl⟩ := row_formS hO
        have NV := Lib.hid (⟨(hg.block _ (Array.getElem?_eq_some_iff.1 NV.out.out).1 (fun e => NE.out (Option.some.inj (show some n7 = some n2 from e)).symm)).trans NV.out.out⟩ : NewB n7 31 #[.int .i64 0, .slice none 0 0, .slice none 0 0, .slice none 0 0, .slice none 0 0, .slice none 0 0, .int .i64 0, .int .i64 0] W5)
        have NE := Lib.hid (fun e => by rcases hwh with q | q <;> (rw [q] at e; first | exact NE.out (Option.some.inj (show some n2 = some n7 from e)) | (have := LT7.out; have := Option.some.inj e; omega)) : (Value.slice sa items.length c).ownBlock ≠ some n7)
        have HG := Lib.hid (heldC_grown H.out hg (fun k hk => ⟨(KE.out.lt k hk).1, fun q hq => by obtain rfl := List.mem_singleton.1 hq; have := (KE.out.lt k hk).1; have := SW0.out; simp only; omega⟩))
        refine ⟨HG.out, ?_⟩
        have H := HG
        have RW := Lib.hid hO
        clear HG hO hg hwh KE
        refine run_bldI (k := kk) (sa := sa) (n := items.length) (m := c) (show opAt (opsOf Tryd.f30 1) 6 = some (some 11, .build 31 #[(0, (.tmp 6)), (1, (.tmp 10))], none) from by kernel_rfl) (by kernel_rfl) (by kernel_rfl) (by kernel_rfl) (by kernel_rfl) ?_
        refine run_last (by kernel_rfl) (show opAt (opsOf Tryd.f30 1) 8 = some (none, .store 31 (.tmp 3) (.tmp 11), none) from by kernel_rfl) (by kernel_rfl) (by kernel_rfl) (by kernel_rfl) (store_vec8 NV.out.out (show (#[.int .i64 kk, .slice sa items.length c, .slice none 0 0, .slice none 0 0, .slice none 0 0, .slice none 0 0, .int .i64 0, .int .i64 0] : Array Value).all (·.oneCell') = true from by simp [Value.oneCell'])) ?_
        refine run_done ?_
        simp only [putAll, Act.put, List.setIfInBounds_toArray, List.set_cons_zero, List.set_cons_succ]
        have PU := Lib.hid (plnU_end (kk := kk) NV.out.out RW.out NE.out GV.out H.out.1)
        clear NV RW NE GV H
        go_wp2_with fail
        go_meet
        exact ⟨n7, sa, c, rfl, PU.out⟩
    · refine run_new (C := #[.int .i64 0, .slice none 0 0, .slice none 0 0, .slice none 0 0, .slice none 0 0, .slice none 0 0, .int .i64 0, .int .i64 0]) (show opAt (opsOf Tryd.f30 1) 7 = some (some 3, .alloc 31, none) from by kernel_rfl) (by kernel_rfl) (by kernel_rfl) new_vec (fun W7 n7 hW7 hn7 => ?_)
      subst hW7
      have NV := Lib.hid (⟨blk_new _ _ hn7⟩ : NewB n7 31 #[.int .i64 0, .slice none 0 0, .slice none 0 0, .slice none 0 0, .slice none 0 0, .slice none 0 0, .int .i64 0, .int .i64 0] _)
      have GV := Lib.hid (by rw [hn7]; exact H.out.1.size : W0.heap.size ≤ n7)
      refine ⟨heldC_call H.out (below1 _ (.cells #[.int .i64 0, .slice none 0 0, .slice none 0 0, .slice none 0 0, .slice none 0 0, .slice none 0 0, .int .i64 0, .int .i64 0] 31)), ?_⟩
      have H := Lib.hid (heldC_call H.out (below1 _ (.cells #[.int .i64 0, .slice none 0 0, .slice none 0 0, .slice none 0 0, .slice none 0 0, .slice none 0 0, .int .i64 0, .int .i64 0] 31)))
      clear hn7
      refine run_mk0I (show opAt (opsOf Tryd.f30 1) 2 = some (some 7, .buildSlice 28 0 #[], none) from by kernel_rfl) (by kernel_rfl) (by kernel_rfl) (fun W2 n2 hW2 hn2 => ?_)
      subst hW2
      have KE := Lib.hid (show (_ : World).ownsRow W0.heap.size 56 3 (.slice (some ⟨n2, 0, none⟩) 0 0) 0 [] from ⟨by simp, .inr ⟨n2, 0, #[], rfl, by rw [hn2]; exact H.out.1.size, blk_new _ _ hn2, Nat.le_refl _, Nat.zero_le _, by simp, by simp⟩⟩)
      have NE := Lib.hid (by rw [hn2]; exact Nat.ne_of_gt (Array.getElem?_eq_some_iff.1 NV.out.out).1 : n2 ≠ n7)
      have NV := Lib.hid (NV.out.keep (below1 _ (.cells #[] 56)))
      refine ⟨heldC_call H.out (below1 _ (.cells #[] 56)), ?_⟩
      have H := Lib.hid (heldC_call H.out (below1 _ (.cells #[] 56)))
      clear hn2
      have LT7 := Lib.hid (Array.getElem?_eq_some_iff.1 NV.out.out).1
      refine run_appM (P := Tryd.prog) (show opAt (opsOf Tryd.f30 1) 5 = some (some 10, .call { callee := .builtin .append, args := [(.tmp 7), (.tmp 9)].toArray, argTypes := [28, 28].toArray }, none) from by kernel_rfl) (by kernel_rfl) (by kernel_rfl) (by kernel_rfl) ai items.length ci (by kernel_rfl) W0.heap.size ieI _ 3 32 Tryd.underlying28 hieI.1 hieI.2.1 hieI.2.2.1 hieI.2.2.2 rfl (by decide) 0 [] KE.out (fun _ => rfl) (itCells items) (itCells_len _) (NI.out _ H.out.1) (itCells_one items) (by unfold maxLen; omega) (by omega) H.out.1.size (fun v' W5 hO hg hwh => ?_)
      rw [Nat.zero_add, List.nil_append] at hO
      obtain ⟨sa, c, rfl⟩ := row_formS hO
      have NV := Lib.hid (⟨(hg.block _ (Array.getElem?_eq_some_iff.1 NV.out.out).1 (fun e => NE.out (Option.some.inj (show some n7 = some n2 from e)).symm)).trans NV.out.out⟩ : NewB n7 31 #[.int .i64 0, .slice none 0 0, .slice none 0 0, .slice none 0 0, .slice none 0 0, .slice none 0 0, .int .i64 0, .int .i64 0] W5)
      have NE := Lib.hid (fun e => by rcases hwh with q | q <;> (rw [q] at e; first | exact NE.out (Option.some.inj (show some n2 = some n7 from e)) | (have := LT7.out; have := Option.some.inj e; omega)) : (Value.slice sa items.length c).ownBlock ≠ some n7)
      have HG := Lib.hid (heldC_grown H.out hg (fun k hk => ⟨(KE.out.lt k hk).1, fun q hq => by obtain rfl := List.mem_singleton.1 hq; have := (KE.out.lt k hk).1; have := SW0.out; simp only; omega⟩))
      refine ⟨HG.out, ?_⟩
      have H := HG
      have RW := Lib.hid hO
      clear HG hO hg hwh KE
      refine run_bldI (k := kk) (sa := sa) (n := items.length) (m := c) (show opAt (opsOf Tryd.f30 1) 6 = some (some 11, .build 31 #[(0, (.tmp 6)), (1, (.tmp 10))], none) from by kernel_rfl) (by kernel_rfl) (by kernel_rfl) (by kernel_rfl) (by kernel_rfl) ?_
      refine run_last (by kernel_rfl) (show opAt (opsOf Tryd.f30 1) 8 = some (none, .store 31 (.tmp 3) (.tmp 11), none) from by kernel_rfl) (by kernel_rfl) (by kernel_rfl) (by kernel_rfl) (store_vec8 NV.out.out (show (#[.int .i64 kk, .slice sa items.length c, .slice none 0 0, .slice none 0 0, .slice none 0 0, .slice none 0 0, .int .i64 0, .int .i64 0] : Array Value).all (·.oneCell') = true from by simp [Value.oneCell'])) ?_
      refine run_done ?_
      simp only [putAll, Act.put, List.setIfInBounds_toArray, List.set_cons_zero, List.set_cons_succ]
      have PU := Lib.hid (plnU_end (kk := kk) NV.out.out RW.out NE.out GV.out H.out.1)
      clear NV RW NE GV H
      go_wp2_with fail
      go_meet
      exact ⟨n7, sa, c, rfl, PU.out⟩

  case rest =>
    obtain ⟨wp, rfl⟩ : ∃ u : World, u = wc := ⟨_, rfl⟩
    obtain ⟨gu, sa, c, rfl, hp⟩ := hcut
    have PU := Lib.hid hp
    have KA := Lib.hid (blk_below PU.out.below KARG0.out)
    have KR := Lib.hid (blk_below PU.out.below KR0.out)
    have HTX := Lib.hid hL
    have HIT := Lib.hid (fun (k : Nat) (hk : k < items.length) => hI.at_ hk)
    have OK := Lib.hid ok
    clear hp H NI EW hI hL ok hieI
    by_cases hl : levels.length = 0
    · have ER := Lib.hid (show vecOf (plnK kk levels) (plnL levels items) = vecOf kk items by rw [plnK_no hl, plnL_no hl])
      rw [hl] at KA ⊢
      obtain ⟨n, hn⟩ : ∃ n, items.length = n := ⟨_, rfl⟩
      rw [hn] at PU KA li ⊢
      clear hn hl KARG0 HTX HIT OK
      obtain ⟨k0, k1, k2, k3, k4, k5, k6, k7⟩ := vec8 KA.out
      go_wp2
      go_loopw [4] (fun i wr => i = .int .i64 0 ∧ wr = wp) (fun _ _ => 0)
      case atStart => exact ⟨rfl, rfl⟩
      case round =>
        obtain ⟨rfl, rfl⟩ := hrel
        obtain ⟨y0, y1, y2, y3, y4, y5, y6, y7⟩ := vec8 PU.out.blk
        obtain ⟨z0, z1, z2, z3, z4, z5, z6, z7⟩ := vec8 KR.out
        obtain ⟨f0, f1, f2, f3, f4, f5, f6, f7⟩ := free8 KR.out
        by_cases h0 : n = 0
        · subst h0
          go_wp2
          rw [ER.out]
          exact vec_end rfl rfl rfl KR.out (PU.out.fin (by have := SW0.out; omega) BW0.out)
        · have hpos : 0 < (n : Int) := by omega
          go_wp2
          rw [ER.out]
          exact vec_end rfl rfl rfl KR.out (PU.out.fin (by have := SW0.out; omega) BW0.out)
    · have ER := Lib.hid (show vecOf (plnK kk levels) (plnL levels items) = vecOf 3 (mixP levels items items.length) by rw [plnK_yes hl, mixP_full])
      have LK := Lib.hid (fun (k : Nat) (hk : k < items.length) => OK.out.its k hk)
      have TX := Lib.hid (fun (j : Nat) (hj : j < levels.length) => HTX.out j (levels.getD j ⟨#[]⟩) (by rw [List.getD_eq_getElem?_getD, List.getElem?_eq_getElem hj]; rfl))
      have PL := Lib.hid (fun (x : It) (h : ¬ x.d = 0) => pln_lev (levels := levels) (x := x) (by omega))
      have PS := Lib.hid (fun (x : It) (h : x.d = 0) => pln_same (levels := levels) (x := x) (.inl h))
      have ll := OK.out.llen
      obtain ⟨nl, hnl⟩ : ∃ nl, levels.length = nl := ⟨_, rfl⟩
      rw [hnl] at KA KARG0 TX LK hl ll ⊢
      clear hnl
      have hl0 : 0 < (nl : Int) := by omega
      obtain ⟨n, hn⟩ : ∃ n, items.length = n := ⟨_, rfl⟩
      have HN := Lib.hid hn
      rw [hn] at PU KA KARG0 li LK HIT ER ⊢
      clear hn HTX OK
      obtain ⟨k0, k1, k2, k3, k4, k5, k6, k7⟩ := vec8 KA.out
      go_wp2
      clear k0 k1 k2 k3 k4 k5 k6 k7
      go_loopw [4] (fun i wr => ∃ (k : Nat) (kc : Int), k ≤ n ∧ i = .int .i64 k ∧ PlnU W0 wr gu kc (.slice sa n c) (mixP levels items k)) (fun i _ => n - (intOf i).toNat)
      case atStart => exact ⟨0, kk, Nat.zero_le _, rfl, by rw [mixP_zero]; exact PU.out⟩
      case round =>
        obtain ⟨k, kc, hk, rfl, hp⟩ := hrel
        clear PU KA KR
        have PU := Lib.hid hp
        have KA := Lib.hid (blk_below PU.out.below KARG0.out)
        have KR := Lib.hid (blk_below PU.out.below KR0.out)
        clear hp
        obtain ⟨k0, k1, k2, k3, k4, k5, k6, k7⟩ := vec8 KA.out
        obtain ⟨y0, y1, y2, y3, y4, y5, y6, y7⟩ := vec8 PU.out.blk
        obtain ⟨e0, e1, e2, e3, e4, e5, e6, e7⟩ := free8 PU.out.blk
        have hgA : ¬ w.heap.size = gu := by have := PU.out.ge; have := SW0.out; omega
        by_cases hlt : k < n
        · obtain ⟨g, cur, rfl, -, hge, hgu, hg, q0, q1, q2⟩ := PU.out.cells (k := k) (by rw [mixP_len, HN.out]; exact hlt)
          rw [mixP_at (by rw [HN.out]; exact hlt)] at q0 q1 q2
          have KG := Lib.hid hg
          have EK := Lib.hid (fun h => mixP_same (levels := levels) (items := items) (k := k) h)
          obtain ⟨hx0, hx1⟩ := LK.out k hlt
          obtain ⟨ba, off, rfl, hbB, c0, c1, c2⟩ := HIT.out k hlt
          have EXK := Lib.hid (mixP_set (levels := levels) (items := items) (k := k) (by rw [HN.out]; exact hlt))
          obtain ⟨x, hx⟩ : ∃ x, items.getD k noI = x := ⟨_, rfl⟩
          rw [hx] at q0 q1 q2 EK hx0 hx1 c0 EXK
          have u1 : wr.cell? ⟨g, k * 3 + 1, none⟩ = some (.int .i64 x.d) := cellOf hg q1
          have PU1 := Lib.hid (PU.out.set0 (k' := 3))
          clear hg q0 q1 q2 hx c1 c2
          by_cases hd : x.d = 0
          · have PM := Lib.hid (show PlnU W0 (wr.setCell ⟨gu, 0, none⟩ (.int .i64 3)) gu 3 (.slice (some ⟨g, 0, none⟩) n c) (mixP levels items (k + 1)) from by rw [EK.out (PS.out x hd)]; exact PU1.out)
            go_wp2
            go_roundw
            case rel => first | exact ⟨k + 1, 3, by omega, by go_num, PM.out⟩ | ((repeat apply Exists.intro); exact ⟨⟨k + 1, 3, by omega, by go_num, PM.out⟩, rfl⟩)
            case measure => simp [intOf]; omega
          · obtain ⟨h1, h2, h3⟩ : x.d = 1 ∧ 1 ≤ x.n ∧ x.n ≤ (nl : Int) := by
              rcases hx1 with q | q | q
              · omega
              · exact absurd q hd
              · exact q
            obtain ⟨m, hm0⟩ : ∃ m : Nat, (x.n - 1).toNat = m := ⟨_, rfl⟩
            have hm : m < nl := by omega
            obtain ⟨bl, ol, rfl, _, hbl', hcs⟩ := TX.out m hm
            have hba : ba < w.heap.size := by omega
            have hbl : bl < w.heap.size := by omega
            have WS := Lib.hid (show IntKind.i64.wrap (x.n - 1) = (m : Int) by rw [show x.n - 1 = (m : Int) by omega]; exact wrap64_id (by omega) (by omega))
            obtain ⟨s, hs⟩ : ∃ s, levels.getD m ⟨#[]⟩ = s := ⟨_, rfl⟩
            have EX := Lib.hid (show txE s = plnI levels x by rw [PL.out x hd, hm0, hs])
            rw [hs] at hcs
            have CX := Lib.hid c0
            have CS := Lib.hid hcs
            have CT := Lib.hid (fun W => specTxtItem s W)
            clear c0 hcs hs hx0 hx1 h1 h2 h3 hm0 EK
            go_wp2
            obtain ⟨w1, hw1⟩ : ∃ W, wr.setCell ⟨gu, 0, none⟩ (.int .i64 3) = W := ⟨_, rfl⟩
            have KG := Lib.hid (show w1.heap[g]? = some (.cells cur 56 (0, 0)) from hw1 ▸ (Below.heap_setCell _ _ _ _ hgu).trans KG.out)
            have PU1 := Lib.hid (show PlnU W0 w1 gu 3 (.slice (some ⟨g, 0, none⟩) n c) (mixP levels items k) from hw1 ▸ PU1.out)
            have KA := Lib.hid (show w1.heap[w.heap.size]? = _ from hw1 ▸ (Below.heap_setCell _ _ _ _ hgA).trans KA.out)
            rw [hw1]
            clear hw1
            have H := Lib.hid (show HeldC w w1 ([(gu, 31, #[.int .i64 3, .slice (some ⟨g, 0, none⟩) n c, .slice none 0 0, .slice none 0 0, .slice none 0 0, .slice none 0 0, .int .i64 0, .int .i64 0]), (w.heap.size, 31, #[.int .i64 kk, .slice (some ⟨ba, off, none⟩) n ci, .slice ap parts.length cp, .slice an names.length cn, .slice ac cls.length cc, .slice (some ⟨bl, ol, none⟩) nl cl, .int .i64 code, .int .i64 env])]) from ⟨below_then BW0.out PU1.out.below, fun q hq => by
              simp only [List.mem_cons, List.not_mem_nil, or_false] at hq
              rcases hq with rfl | rfl
              · exact PU1.out.blk
              · exact KA.out⟩)
            refine run_region (ops := (opsOf Tryd.f30 7)) (S := fun w' => HeldC w w' ([(gu, 31, #[.int .i64 3, .slice (some ⟨g, 0, none⟩) n c, .slice none 0 0, .slice none 0 0, .slice none 0 0, .slice none 0 0, .int .i64 0, .int .i64 0]), (w.heap.size, 31, #[.int .i64 kk, .slice (some ⟨ba, off, none⟩) n ci, .slice ap parts.length cp, .slice an names.length cn, .slice ac cls.length cc, .slice (some ⟨bl, ol, none⟩) nl cl, .int .i64 code, .int .i64 env])])) [(0, true), (1, true), (2, true), (3, true), (4, true), (5, true), (6, true), (7, true), (8, true), (9, true), (10, true), (11, true), (12, true), (13, true), (14, false), (15, true), (16, false)] (by kernel_rfl) (by kernel_rfl) (by kernel_rfl) (by kernel_rfl) (by kernel_rfl) (fun _ _ _ _ _ h => h) (heldC_drew H.out) ?_
            have H := Lib.hid (heldC_drew H.out)
            have PU1 := Lib.hid (PU1.out.keep (below_drew' (Below.refl _ _)))
            have KG := Lib.hid (blk_drew KG.out)
            refine runC_partV (b := gu) (by kernel_rfl) (show opAt (opsOf Tryd.f30 7) 0 = some (some 33, .fieldAddr 31 (.tmp 3) 1, none) from by kernel_rfl) (by kernel_rfl) (by kernel_rfl) (by kernel_rfl) ?_
            refine runC_cell (b := gu) (j := 1) (v := .slice (some ⟨g, 0, none⟩) n c) load_its (show opAt (opsOf Tryd.f30 7) 1 = some (some 34, .load 28 (.tmp 33), none) from by kernel_rfl) (by kernel_rfl) (by kernel_rfl) (by kernel_rfl) (List.Mem.head _) rfl ?_
            refine run_mov (v := .int .i64 (k : Int)) (show opAt (opsOf Tryd.f30 7) 2 = some (some 35, .move (.tmp 4), none) from by kernel_rfl) (by kernel_rfl) (by kernel_rfl) (by kernel_rfl) ?_
            refine runC_partV (b := w.heap.size) (by kernel_rfl) (show opAt (opsOf Tryd.f30 7) 3 = some (some 36, .fieldAddr 31 (.tmp 1) 5, none) from by kernel_rfl) (by kernel_rfl) (by kernel_rfl) (by kernel_rfl) ?_
            refine runC_cell (b := w.heap.size) (j := 5) (v := .slice (some ⟨bl, ol, none⟩) nl cl) load_strs (show opAt (opsOf Tryd.f30 7) 4 = some (some 37, .load 24 (.tmp 36), none) from by kernel_rfl) (by kernel_rfl) (by kernel_rfl) (by kernel_rfl) (List.Mem.tail _ (List.Mem.head _)) rfl ?_
            refine runC_partV (b := w.heap.size) (by kernel_rfl) (show opAt (opsOf Tryd.f30 7) 5 = some (some 38, .fieldAddr 31 (.tmp 1) 1, none) from by kernel_rfl) (by kernel_rfl) (by kernel_rfl) (by kernel_rfl) ?_
            refine runC_cell (b := w.heap.size) (j := 1) (v := .slice (some ⟨ba, off, none⟩) n ci) load_its (show opAt (opsOf Tryd.f30 7) 6 = some (some 39, .load 28 (.tmp 38), none) from by kernel_rfl) (by kernel_rfl) (by kernel_rfl) (by kernel_rfl) (List.Mem.tail _ (List.Mem.head _)) rfl ?_
            refine run_mov (v := .int .i64 (k : Int)) (show opAt (opsOf Tryd.f30 7) 7 = some (some 40, .move (.tmp 4), none) from by kernel_rfl) (by kernel_rfl) (by kernel_rfl) (by kernel_rfl) ?_
            refine run_idx3 (n := n) (c := ci) (b := ba) (off := off) (k := k) (show opAt (opsOf Tryd.f30 7) 8 = some (some 41, .indexAddr 28 (.tmp 39) (.tmp 40), none) from by kernel_rfl) (by kernel_rfl) (by kernel_rfl) (by kernel_rfl) (by kernel_rfl) hlt ?_
            refine runC_partJ (b := ba) (o := off + k * 3) (by kernel_rfl) (show opAt (opsOf Tryd.f30 7) 9 = some (some 42, .fieldAddr 56 (.tmp 41) 0, none) from by kernel_rfl) (by kernel_rfl) (by kernel_rfl) (by kernel_rfl) ?_
            refine runC_old (b := ba) (j := off + k * 3 + 0) (v := .int .i64 x.n) load_int (show opAt (opsOf Tryd.f30 7) 10 = some (some 43, .load 3 (.tmp 42), none) from by kernel_rfl) (by kernel_rfl) (by kernel_rfl) (by kernel_rfl) hba CX.out ?_
            refine run_sub (k := .i64) (p := x.n) (q := 1) (z := (m : Int)) (show opAt (opsOf Tryd.f30 7) 11 = some (some 44, .binOp .sub 3 (.tmp 43) (.const (.int .i64 1)) 3, none) from by kernel_rfl) (by kernel_rfl) (by kernel_rfl) (by kernel_rfl) (by kernel_rfl) WS.out ?_
            refine run_idx1 (n := nl) (c := cl) (b := bl) (off := ol) (k := m) (show opAt (opsOf Tryd.f30 7) 12 = some (some 45, .indexAddr 24 (.tmp 37) (.tmp 44), none) from by kernel_rfl) (by kernel_rfl) (by kernel_rfl) (by kernel_rfl) (by kernel_rfl) hm Tryd.underlying24 (by kernel_rfl) infoStr ?_
            refine runC_old (b := bl) (j := ol + m) (v := .string s) load_text (show opAt (opsOf Tryd.f30 7) 13 = some (some 46, .load 9 (.tmp 45), none) from by kernel_rfl) (by kernel_rfl) (by kernel_rfl) (by kernel_rfl) hbl CS.out ?_
            refine run_call (args := [.string s]) (show opAt (opsOf Tryd.f30 7) 14 = some (some 47, .call { callee := .value (.func 71), args := [(.tmp 46)].toArray, argTypes := [9].toArray }, none) from by kernel_rfl) (by kernel_rfl) (by kernel_rfl) (by kernel_rfl) (by kernel_rfl) ?_
            refine (CT.out _).mono ?_
            rintro en rw1 ⟨rfl, hb⟩
            refine ⟨_, rfl, heldC_call H.out hb, ?_⟩
            have H := Lib.hid (heldC_call H.out hb)
            have PU1 := Lib.hid (PU1.out.keep hb)
            have KG := Lib.hid (blk_below hb KG.out)
            clear hb
            refine run_idx3 (n := n) (c := c) (b := g) (off := 0) (k := k) (show opAt (opsOf Tryd.f30 7) 15 = some (some 48, .indexAddr 28 (.tmp 34) (.tmp 35), none) from by kernel_rfl) (by kernel_rfl) (by kernel_rfl) (by kernel_rfl) (by kernel_rfl) hlt ?_
            have PN := Lib.hid (PU1.out.put (k := k) (z := txE s) (o := 0 + k * 3) KG.out (by rw [mixP_len, HN.out]; exact hlt) (Nat.zero_add _))
            refine run_last (by kernel_rfl) (show opAt (opsOf Tryd.f30 7) 16 = some (none, .store 56 (.tmp 48) (.tmp 47), none) from by kernel_rfl) (by kernel_rfl) (by kernel_rfl) (by kernel_rfl) (store_itemAt (x := .int .i64 0) (y := .int .i64 1) (z := .string s) KG.out PN.out.1 rfl rfl rfl) ?_
            obtain ⟨wn, hwn⟩ : ∃ W, rw1.setRow g (cur.toList.take (0 + k * 3) ++ [Value.int .i64 0, .int .i64 1, .string s] ++ cur.toList.drop (0 + k * 3 + 3)).toArray = W := ⟨_, rfl⟩
            rw [hwn]
            have PM := Lib.hid (show PlnU W0 wn gu 3 (.slice (some ⟨g, 0, none⟩) n c) (mixP levels items (k + 1)) from by have q : PlnU W0 wn gu 3 (.slice (some ⟨g, 0, none⟩) n c) ((mixP levels items k).set k (txE s)) := (by rw [← hwn]; exact PN.out.2); rw [EX.out, EXK.out] at q; exact q)
            refine run_done ?_
            simp only [putAll, Act.put, List.setIfInBounds_toArray, List.set_cons_zero, List.set_cons_succ]
            clear hwn PN PU1 KG H
            go_wp2
            go_roundw
            case rel => first | exact ⟨k + 1, 3, by omega, by go_num, PM.out⟩ | ((repeat apply Exists.intro); exact ⟨⟨k + 1, 3, by omega, by go_num, PM.out⟩, rfl⟩)
            case measure => simp [intOf]; omega
        · obtain rfl : k = n := by omega
          have PU1 := Lib.hid (PU.out.set0 (k' := 3))
          have hlA := (Array.getElem?_eq_some_iff.1 KA.out).1
          have hgr : ¬ w.heap.size + 1 = gu := by have := PU.out.ge; have := SW0.out; omega
          have KR1 := Lib.hid (show (wr.setCell ⟨gu, 0, none⟩ (.int .i64 3)).heap[w.heap.size + 1]? = _ from (Below.heap_setCell _ _ _ _ hgr).trans KR.out)
          obtain ⟨z0, z1, z2, z3, z4, z5, z6, z7⟩ := vec8 KR.out
          obtain ⟨f0, f1, f2, f3, f4, f5, f6, f7⟩ := free8 KR.out
          go_wp2
          rw [ER.out]
          exact vec_end rfl rfl rfl KR1.out (PU1.out.fin (by have := SW0.out; omega) BW0.out)
end Go.Proofs.YtjpdnabfpiengaaDoor

/- CountBytes of the reference. -/
namespace Go.Proofs.YtjpdnabfpiengaaDoor
open Go.RowKit
set_option maxRecDepth 100000
set_option linter.unusedVariables false

/-- An item's variable that a region has made and filled. -/
structure BoxI (wr wx : World) (g : Nat) (z : It) : Prop where
  blk : wx.heap[g]? = some (.cells #[.int .i64 z.n, .int .i64 z.d, .string z.t] 56 (0, 0))
  ge : wr.heap.size ≤ g
  below : Below wr.heap.size wr wx
theorem boxI_end {wr w : World} {g : Nat} {z : It} {C : Array Value} (hb : w.heap[g]? = some (.cells C 56 (0, 0))) (ge : wr.heap.size ≤ g) (hB : Below wr.heap.size wr w) : BoxI wr (w.setRow g #[.int .i64 z.n, .int .i64 z.d, .string z.t]) g z := ⟨row_set hb, ge, below_row hB ge _⟩
theorem blk_set3e {w : World} {a g : Nat} {x y z : Value} (hg : a ≠ g) : (((w.setCell ⟨g, 0, none⟩ x).setCell ⟨g, 1, none⟩ y).setCell ⟨g, 2, none⟩ z).heap[a]? = w.heap[a]? := by
  rw [Below.heap_setCell _ _ _ _ hg, Below.heap_setCell _ _ _ _ hg, Below.heap_setCell _ _ _ _ hg]
theorem AppK.set3 {w w0 wr : World} {b g : Nat} {kind : Int} {l : List It} {sa : Option Addr} {sn sc : Nat} {na : Option Addr} {nn nc : Nat} {x y z : Value} (h : AppK w w0 wr b kind l sa sn sc na nn nc) (hg : w0.heap.size ≤ g) (hr : ∀ j, (Value.slice sa sn sc).ownBlock = some j → j ≠ g) : AppK w w0 (((wr.setCell ⟨g, 0, none⟩ x).setCell ⟨g, 1, none⟩ y).setCell ⟨g, 2, none⟩ z) b kind l sa sn sc na nn nc := by
  have hl := h.lt
  have hge := h.ge
  have hs : (((wr.setCell ⟨g, 0, none⟩ x).setCell ⟨g, 1, none⟩ y).setCell ⟨g, 2, none⟩ z).heap.size = wr.heap.size := by simp
  refine ⟨blk_set3' h.vec (by omega), ownsRow_kept h.row (fun j hj => blk_set3e (hr j hj)), fun j hj hn => (blk_set3e (by omega)).trans (h.kept j hj hn), by rw [hs]; exact h.size, below_three h.below (by omega) _ _ _, hl, hge⟩
theorem idx3_at {b off n c k : Nat} {ops : Array Oper} {Q : Exit → Act → World → Prop} {S : World → Prop} {r : List (Nat × Bool)} {a : Act} {e : List (Nat × Value)} {w : World} {i d : Nat} {g : Option (Nat × Bool)} {x y : Operand} (ho : opAt ops i = some (some d, .indexAddr 28 x y, g)) (hd : Nat.blt d a.tmps.size = true) (hw : wantE ops a e g = some true)
    (hx : lookO a e x = .slice (some ⟨b, off, none⟩) n c) (hy : lookO a e y = .int .i64 (k : Int)) (hk : k < n)
    (h : RunE Tryd.prog ops Q S r a ((d, .pointer (some ⟨b, off + k * 3, none⟩)) :: e) w) : RunE Tryd.prog ops Q S ((i, true) :: r) a e w := run_idx3 ho hd hw hx hy hk h
set_option maxHeartbeats 8000000 in
theorem specCountB (d : Nat) (v : Vec) (val : Value) (lo hi : Nat) (w : World) (hv : VecAt lo hi w d v val) (hhi : hi ≤ w.heap.size) (hsm : Small d v) :
    Calls Tryd.prog 8 #[val] w (ResVS 1 (cbV v) (atmS v) w) := by
  have C1 := Lib.hid (fun (w1 : World) (hb : Below w.heap.size w w1) => specAtm d v val lo hi w1 (hv.below hb hhi) (Nat.le_trans hhi hb.size) hsm)
  obtain ⟨VV, hVV⟩ : ∃ V, v = V := ⟨_, rfl⟩
  rw [hVV] at C1 ⊢
  obtain ⟨kk, items, parts, names, cls, levels, code, env⟩ := v
  have CP := Lib.hid (fun (ok : AtmOk kk items levels) (W : World) (hb : Below w.heap.size w W) => specPlain d kk items parts names cls levels code env val lo hi W (hv.below hb hhi) (Nat.le_trans hhi hb.size) ok)
  obtain ⟨d', ai, ci, ap, cp, an, cn, ac, cc, al, cl, ed, rfl, hI, hN, hC, hL, hP⟩ := vecAt_open hv
  have ln : names.length ≤ 1048576 := by subst ed; exact hsm.2.2.1
  have HT := Lib.hid (fun (w1 : World) (hb : Below w.heap.size w w1) => hN.below hb hhi)
  have OK := Lib.hid (fun (h : atmS VV = ⟨#[]⟩) => (by have e := atmS_iff.1 h; rw [← hVV] at e; exact atm_ok e.1 e.2 : AtmOk kk items levels))
  have XV := Lib.hid (fun (h : atmS VV = ⟨#[]⟩) => (by have e := h; rw [← hVV] at e ⊢; rw [cbV_yes e, txsL_len]; unfold mkN; congr 1; unfold itF; exact List.map_congr_left (fun i hi => by rw [txsL, cnvL_at (by rw [plnL_len]; exact List.mem_range.1 hi)]) : cbV VV = mkN 2 (itF (fun i => bytI (cnvI (plnK kk levels) 3 ((plnL levels items).getD i noI))) items.length) names))
  have PK := Lib.hid (fun (ok : AtmOk kk items levels) => ok.pk)
  have PI := Lib.hid (fun (ok : AtmOk kk items levels) (i : Nat) (hi : i < items.length) => ok.pln hi)
  have hXl := plnL_len levels items
  obtain ⟨X, hX⟩ : ∃ X, plnL levels items = X := ⟨_, rfl⟩
  obtain ⟨K, hK⟩ : ∃ K, plnK kk levels = K := ⟨_, rfl⟩
  rw [hX] at CP XV PI hXl
  rw [hK] at CP XV PI PK
  have NL := Lib.hid (fun W n => specNum2 n W)
  clear hv hI hN hC hL hP hsm ed hVV hX hK
  go_enter Tryd.func8, Tryd.ntmps8
  go_wp2_with fail
  obtain ⟨w1, hw1⟩ : ∃ W, (w.alloc (.cells #[.int .i64 kk, .slice ai items.length ci, .slice ap parts.length cp, .slice an names.length cn, .slice ac cls.length cc, .slice al levels.length cl, .int .i64 code, .int .i64 env] 31)).alloc (.cells #[.int .i64 0, .slice none 0 0, .slice none 0 0, .slice none 0 0, .slice none 0 0, .slice none 0 0, .int .i64 0, .int .i64 0] 31) = W := ⟨_, rfl⟩
  have hsz : (w.alloc (.cells #[.int .i64 kk, .slice ai items.length ci, .slice ap parts.length cp, .slice an names.length cn, .slice ac cls.length cc, .slice al levels.length cl, .int .i64 code, .int .i64 env] 31)).heap.size = w.heap.size + 1 := by simp
  have B1 := Lib.hid (show Below w.heap.size w w1 from hw1 ▸ below2 w _ _)
  have KA := Lib.hid (show w1.heap[w.heap.size]? = some (.cells #[.int .i64 kk, .slice ai items.length ci, .slice ap parts.length cp, .slice an names.length cn, .slice ac cls.length cc, .slice al levels.length cl, .int .i64 code, .int .i64 env] 31 (0, 0)) from hw1 ▸ blk_old (blk_new w _ rfl))
  have KR := Lib.hid (show w1.heap[w.heap.size + 1]? = some (.cells #[.int .i64 0, .slice none 0 0, .slice none 0 0, .slice none 0 0, .slice none 0 0, .slice none 0 0, .int .i64 0, .int .i64 0] 31 (0, 0)) from hw1 ▸ blk_new _ _ hsz.symm)
  rw [hw1]
  clear hw1 hsz
  with_reducible refine (C1.out _ B1.out).mono ?_
  rintro e w2 ⟨rfl, b⟩
  have B2 := Lib.hid (below_then B1.out b)
  have KA := Lib.hid (blk_below b KA.out)
  have KR := Lib.hid (blk_below b KR.out)
  clear b
  by_cases hs : atmS VV = ⟨#[]⟩
  · have XV1 := Lib.hid (XV.out hs)
    have XS1 := Lib.hid hs
    have ok := Lib.hid (OK.out hs)
    have hl := ok.out.len
    have hpk := PK.out ok.out
    have PI := Lib.hid (PI.out ok.out)
    rw [hs]
    have HL2 := Lib.hid (Array.getElem?_eq_some_iff.1 KR.out).1
    obtain ⟨k0, k1, k2, k3, k4, k5, k6, k7⟩ := vec8 KA.out
    clear hs XV PK OK
    go_wp2_with fail
    with_reducible refine (CP.out ok.out _ B2.out).mono ?_
    rintro e w3 ⟨y, rfl, ho, b⟩
    have hv3 := ho.vatL (Nat.le_refl _) (Nat.le_refl _)
    obtain ⟨d3, bi, di, bp, dp, bn, dn, bc, dc, bl, dl, ed, rfl, hI, _⟩ := vecAt_open (show VecAt w2.heap.size w3.heap.size w3 1 (.mk K X [] [] [] [] 0 0) y from hv3)
    rw [hXl]
    have HX := Lib.hid hI
    have B3 := Lib.hid (below_then B2.out b)
    have S3 := Lib.hid b.size
    have KA := Lib.hid (blk_below b KA.out)
    have KR := Lib.hid (blk_below b KR.out)
    clear k0 k1 k2 k3 k4 k5 k6 k7 b hv3 ed hI ho ok CP
    simp only [List.length_nil]
    obtain ⟨n, hn⟩ : ∃ n, items.length = n := ⟨_, rfl⟩
    rw [hn] at hl PI XV1 KA hXl ⊢
    clear hn
    obtain ⟨w4, hw4⟩ : ∃ W, (w3.alloc (.cells #[.int .i64 K, .slice bi n di, .slice bp 0 dp, .slice bn 0 dn, .slice bc 0 dc, .slice bl 0 dl, .int .i64 0, .int .i64 0] 31)).alloc (.cells #[] 9) = W := ⟨_, rfl⟩
    have hsz : (w3.alloc (.cells #[.int .i64 K, .slice bi n di, .slice bp 0 dp, .slice bn 0 dn, .slice bc 0 dc, .slice bl 0 dl, .int .i64 0, .int .i64 0] 31)).heap.size = w3.heap.size + 1 := by simp
    have b4 : Below w3.heap.size w3 w4 := hw4 ▸ below2 w3 _ _
    have KY := Lib.hid (show w4.heap[w3.heap.size]? = some (.cells #[.int .i64 K, .slice bi n di, .slice bp 0 dp, .slice bn 0 dn, .slice bc 0 dc, .slice bl 0 dl, .int .i64 0, .int .i64 0] 31 (0, 0)) from hw4 ▸ blk_old (blk_new w3 _ rfl))
    have KS := Lib.hid (show w4.heap[w3.heap.size + 1]? = some (.cells #[] 9 (0, 0)) from hw4 ▸ blk_new _ _ hsz.symm)
    have B4 := Lib.hid (below_then B3.out b4)
    have KA4 := Lib.hid (blk_below b4 KA.out)
    have KR4 := Lib.hid (blk_below b4 KR.out)
    have HX4 := Lib.hid (HX.out.below b4 (Nat.le_refl _))
    have EW4 := Lib.hid hw4
    have hltA := (Array.getElem?_eq_some_iff.1 KA.out).1
    clear b4 hw4 hsz HX
    obtain ⟨k0, k1, k2, k3, k4, k5, k6, k7⟩ := vec8 KA.out
    go_wp2_with (at_builtin; go_loud (rw [EW4.out]; refine wpList_copyTexts rfl _ _ rfl (w3.heap.size + 1) _ rfl (.inr ⟨w3.heap.size + 1, Nat.le_refl _, rfl, KS.out⟩) an cn names lo hi rfl (HT.out _ B4.out) ln (Nat.le_of_lt (Array.getElem?_eq_some_iff.1 KS.out).1) ?_))
    intro v' w5 hcp hb5
    obtain ⟨na, nc, FF, rfl, hT, hnd, hrg, hcap⟩ := hcp
    have B5 := Lib.hid (B4.out.trans (hb5.mono (by have := B3.out.size; omega)))
    have KY5 := Lib.hid ((hb5.block _ (Nat.lt_succ_self _)).trans KY.out)
    have KR5 := Lib.hid ((hb5.block _ (by have := (Array.getElem?_eq_some_iff.1 KR.out).1; omega)).trans KR4.out)
    have HX5 := Lib.hid (HX4.out.below hb5 (Nat.le_succ _))
    have S5 := Lib.hid hb5.size
    have S4 := Lib.hid (Array.getElem?_eq_some_iff.1 KS.out).1
    obtain ⟨w0, hw0⟩ : ∃ W, w5.alloc (.cells #[.int .i64 2, .slice none 0 0, .slice none 0 0, .slice na names.length nc, .slice none 0 0, .slice none 0 0, .int .i64 0, .int .i64 0] 31) = W := ⟨_, rfl⟩
    have b0 : Below w5.heap.size w5 w0 := hw0 ▸ below1 w5 _
    have B0 := Lib.hid (below_then B5.out b0)
    have KB := Lib.hid (show w0.heap[w5.heap.size]? = some (.cells #[.int .i64 2, .slice none 0 0, .slice none 0 0, .slice na names.length nc, .slice none 0 0, .slice none 0 0, .int .i64 0, .int .i64 0] 31 (0, 0)) from hw0 ▸ blk_new w5 _ rfl)
    have KY := Lib.hid (blk_below b0 KY5.out)
    have KR := Lib.hid (blk_below b0 KR5.out)
    have HX := Lib.hid (HX5.out.below b0 (by have := S5.out; have := S4.out; omega))
    have HT := Lib.hid (show OwnTxs w0 na names FF from hT.kept (fun g hg => b0.block g (hrg g hg).2))
    have HRG := Lib.hid hrg
    have HND := Lib.hid hnd
    have HCP := Lib.hid hcap
    have EW0 := Lib.hid hw0
    clear b0 hw0 hT hrg hnd hcap k0 k1 k2 k3 k4 k5 k6 k7 hb5 KY5 KR5 KA KA4 KR4 HX4 HX5 EW4 hltA
    go_wp2
    rw [EW0.out]
    have hL2 := HL2.out
    have hS3 := S3.out
    have hS4 := S4.out
    have hS5 := S5.out
    have hB2 := B2.out.size
    have HRG := Lib.hid (fun g hg => (by have := HRG.out g hg; exact ⟨by omega, this.2⟩ : w3.heap.size + 1 ≤ g ∧ g < w5.heap.size))
    obtain ⟨yb, hyb⟩ : ∃ yb, w3.heap.size = yb := ⟨_, rfl⟩
    obtain ⟨b, hb⟩ : ∃ b, w5.heap.size = b := ⟨_, rfl⟩
    rw [hyb] at KY HX HRG hS3 hS4 ⊢
    rw [hb] at KB HRG hS5 ⊢
    clear hyb hb EW0 S3 S4 S5
    have hyl := (Array.getElem?_eq_some_iff.1 KY.out).1
    have ST := Lib.hid (show AppK w w0 w0 b 2 (itF (fun i => bytI (cnvI K 3 (X.getD i noI))) 0) none 0 0 na names.length nc from AppK.start KB.out B0.out (by omega))
    have AI := Lib.hid (fun (k : Nat) (wr : World) (hk : k < n) (hk' : ∀ g, g < w0.heap.size → g ≠ b → wr.heap[g]? = w0.heap[g]?) => HX.out.loopK (.inr (by omega)) (by omega) hk' (by rw [hXl]; exact hk))
    have CI := Lib.hid (fun (k : Nat) (hk : k < n) (wr : World) (W : World) (hb : Below wr.heap.size wr W) => specCnv K 3 (X.getD k noI) W (PI.out k hk) hpk.1 hpk.2.1 (Int.le_refl _))
    have OKZ := Lib.hid (fun (k : Nat) (hk : k < n) => cnv_ok (j := 3) (PI.out k hk) hpk.2.1 (Int.le_refl _))
    clear HX PI hpk
    go_loopw [7] (fun i wr => ∃ (k : Nat) (sa : Option Addr) (sn sc : Nat), k ≤ n ∧ i = .int .i64 k ∧ AppK w w0 wr b 2 (itF (fun i => bytI (cnvI K 3 (X.getD i noI))) k) sa sn sc na names.length nc) (fun i _ => n - (intOf i).toNat)
    case atStart => exact ⟨0, none, 0, 0, Nat.zero_le _, rfl, ST.out⟩
    case round =>
      obtain ⟨k, sa, sn, sc, hk, rfl, hap⟩ := hrel
      have AP := Lib.hid hap
      have KYr := Lib.hid (hap.blk KY.out (by omega))
      clear hap
      obtain ⟨y0, y1, y2, y3, y4, y5, y6, y7⟩ := vec8 KYr.out
      by_cases hlt : k < n
      · obtain ⟨ba, off, rfl, hbB, c0, c1, c2⟩ := AI.out k wr hlt AP.out.kept
        have CK := Lib.hid (fun W hb => CI.out k hlt wr W hb)
        have OZ := Lib.hid (OKZ.out k hlt)
        have NX := Lib.hid (itF_succ (fun i => bytI (cnvI K 3 (X.getD i noI))) k)
        obtain ⟨z, hz⟩ : ∃ z : It, cnvI K 3 (X.getD k noI) = z := ⟨_, rfl⟩
        rw [hz] at CK NX OZ
        obtain ⟨u, hu⟩ : ∃ u : It, bytI z = u := ⟨_, rfl⟩
        rw [hu] at NX
        have UZ := Lib.hid hu
        obtain ⟨x, hx⟩ : ∃ x : It, X.getD k noI = x := ⟨_, rfl⟩
        rw [hx] at c0 c1 c2 CK
        have C0 := Lib.hid c0
        have C1 := Lib.hid c1
        have C2 := Lib.hid c2
        have LN := Lib.hid (show (itF (fun i => bytI (cnvI K 3 (X.getD i noI))) k).length ≤ 1048576 by rw [itF_len]; omega)
        have hbw : ba < wr.heap.size := Nat.lt_of_lt_of_le hbB AP.out.size
        have RL := Lib.hid (fun j hj => (AP.out.row.lt j hj).2)
        have APS := Lib.hid AP.out.size
        clear hx hz hu c0 c1 c2
        go_wp2
        have H := Lib.hid (show HeldC wr wr ([(yb, 31, #[.int .i64 K, .slice (some ⟨ba, off, none⟩) n di, .slice bp 0 dp, .slice bn 0 dn, .slice bc 0 dc, .slice bl 0 dl, .int .i64 0, .int .i64 0])]) from ⟨Below.refl _ _, fun q hq => by obtain rfl := List.mem_singleton.1 hq; exact KYr.out⟩)
        go_cut [8] from 29 to 36 (fun pu wx => ∃ gy : Nat, pu = .pointer (some ⟨gy, 0, none⟩) ∧ BoxI wr wx gy z)
        case first =>
          refine run_regionT (ops := (opsOf Tryd.f8 9)) (S := fun w' => HeldC wr w' ([(yb, 31, #[.int .i64 K, .slice (some ⟨ba, off, none⟩) n di, .slice bp 0 dp, .slice bn 0 dn, .slice bc 0 dc, .slice bl 0 dl, .int .i64 0, .int .i64 0])])) (.fork [(0, true), (1, true), (2, true), (3, true), (4, true), (5, true), (6, true)] 7 (.leaf [(8, false), (9, false)]) 8 (.leaf [(7, false), (9, false)])) (by kernel_rfl) (by kernel_rfl) (by kernel_rfl) (by kernel_rfl) (by kernel_rfl) (fun _ _ _ _ _ h => h) (heldC_drew H.out) ?_
          have H := Lib.hid (heldC_drew H.out)
          refine runC_partV (b := yb) (by kernel_rfl) (show opAt (opsOf Tryd.f8 9) 0 = some (some 29, .fieldAddr 31 (.tmp 5) 0, none) from by kernel_rfl) (by kernel_rfl) (by kernel_rfl) (by kernel_rfl) ?_
          refine runC_cell (b := yb) (j := 0) (v := .int .i64 K) load_int (show opAt (opsOf Tryd.f8 9) 1 = some (some 30, .load 3 (.tmp 29), none) from by kernel_rfl) (by kernel_rfl) (by kernel_rfl) (by kernel_rfl) (List.Mem.head _) rfl ?_
          refine runC_partV (b := yb) (by kernel_rfl) (show opAt (opsOf Tryd.f8 9) 2 = some (some 31, .fieldAddr 31 (.tmp 5) 1, none) from by kernel_rfl) (by kernel_rfl) (by kernel_rfl) (by kernel_rfl) ?_
          refine runC_cell (b := yb) (j := 1) (v := .slice (some ⟨ba, off, none⟩) n di) load_its (show opAt (opsOf Tryd.f8 9) 3 = some (some 32, .load 28 (.tmp 31), none) from by kernel_rfl) (by kernel_rfl) (by kernel_rfl) (by kernel_rfl) (List.Mem.head _) rfl ?_
          refine run_mov (v := .int .i64 (k : Int)) (show opAt (opsOf Tryd.f8 9) 4 = some (some 33, .move (.tmp 7), none) from by kernel_rfl) (by kernel_rfl) (by kernel_rfl) (by kernel_rfl) ?_
          refine run_idx3 (n := n) (c := di) (b := ba) (off := off) (k := k) (show opAt (opsOf Tryd.f8 9) 5 = some (some 34, .indexAddr 28 (.tmp 32) (.tmp 33), none) from by kernel_rfl) (by kernel_rfl) (by kernel_rfl) (by kernel_rfl) (by kernel_rfl) hlt ?_
          refine runC_oldI (b := ba) (j := off + k * 3) (z := x) (show opAt (opsOf Tryd.f8 9) 6 = some (some 35, .load 56 (.tmp 34), none) from by kernel_rfl) (by kernel_rfl) (by kernel_rfl) (by kernel_rfl) hbw C0.out C1.out C2.out ?_
          refine run_fork H.out (by kernel_rfl) (by kernel_rfl) ?_ ?_
          · refine run_call (args := [.int .i64 K, .int .i64 3, .agg #[.int .i64 x.n, .int .i64 x.d, .string x.t]]) (show opAt (opsOf Tryd.f8 9) 7 = some (some 36, .call { callee := .value (.func 31), args := [(.tmp 30), (.const (.int .i64 3)), (.tmp 35)].toArray, argTypes := [3, 3, 56].toArray }, none) from by kernel_rfl) (by kernel_rfl) (by kernel_rfl) (by kernel_rfl) (by kernel_rfl) ?_
            refine (CK.out _ H.out.1).mono ?_
            rintro en rw1 ⟨rfl, hb⟩
            refine ⟨_, rfl, heldC_call H.out hb, ?_⟩
            have H := Lib.hid (heldC_call H.out hb)
            clear hb
            refine run_new (C := #[.int .i64 0, .int .i64 0, .string ⟨#[]⟩]) (show opAt (opsOf Tryd.f8 9) 8 = some (some 8, .alloc 56, none) from by kernel_rfl) (by kernel_rfl) (by kernel_rfl) new_item (fun W8 n8 hW8 hn8 => ?_)
            subst hW8
            have NV := Lib.hid (⟨blk_new _ _ hn8⟩ : NewB n8 56 #[.int .i64 0, .int .i64 0, .string ⟨#[]⟩] _)
            have GV := Lib.hid (by rw [hn8]; exact H.out.1.size : wr.heap.size ≤ n8)
            refine ⟨heldC_call H.out (below1 _ (.cells #[.int .i64 0, .int .i64 0, .string ⟨#[]⟩] 56)), ?_⟩
            have H := Lib.hid (heldC_call H.out (below1 _ (.cells #[.int .i64 0, .int .i64 0, .string ⟨#[]⟩] 56)))
            clear hn8
            refine run_last (by kernel_rfl) (show opAt (opsOf Tryd.f8 9) 9 = some (none, .store 56 (.tmp 8) (.tmp 36), none) from by kernel_rfl) (by kernel_rfl) (by kernel_rfl) (by kernel_rfl) (store_item (u := .int .i64 z.n) (v := .int .i64 z.d) (q := .string z.t) NV.out.out rfl rfl rfl) ?_
            refine run_done ?_
            simp only [putAll, Act.put, List.setIfInBounds_toArray, List.set_cons_zero, List.set_cons_succ]
            have BX := Lib.hid (boxI_end (z := z) NV.out.out GV.out H.out.1)
            clear NV GV H
            go_wp2_with fail
            go_meet
            exact ⟨n8, rfl, BX.out⟩
          · refine run_new (C := #[.int .i64 0, .int .i64 0, .string ⟨#[]⟩]) (show opAt (opsOf Tryd.f8 9) 8 = some (some 8, .alloc 56, none) from by kernel_rfl) (by kernel_rfl) (by kernel_rfl) new_item (fun W8 n8 hW8 hn8 => ?_)
            subst hW8
            have NV := Lib.hid (⟨blk_new _ _ hn8⟩ : NewB n8 56 #[.int .i64 0, .int .i64 0, .string ⟨#[]⟩] _)
            have GV := Lib.hid (by rw [hn8]; exact H.out.1.size : wr.heap.size ≤ n8)
            refine ⟨heldC_call H.out (below1 _ (.cells #[.int .i64 0, .int .i64 0, .string ⟨#[]⟩] 56)), ?_⟩
            have H := Lib.hid (heldC_call H.out (below1 _ (.cells #[.int .i64 0, .int .i64 0, .string ⟨#[]⟩] 56)))
            clear hn8
            refine run_call (args := [.int .i64 K, .int .i64 3, .agg #[.int .i64 x.n, .int .i64 x.d, .string x.t]]) (show opAt (opsOf Tryd.f8 9) 7 = some (some 36, .call { callee := .value (.func 31), args := [(.tmp 30), (.const (.int .i64 3)), (.tmp 35)].toArray, argTypes := [3, 3, 56].toArray }, none) from by kernel_rfl) (by kernel_rfl) (by kernel_rfl) (by kernel_rfl) (by kernel_rfl) ?_
            refine (CK.out _ H.out.1).mono ?_
            rintro en rw1 ⟨rfl, hb⟩
            refine ⟨_, rfl, heldC_call H.out hb, ?_⟩
            have H := Lib.hid (heldC_call H.out hb)
            have NV := Lib.hid (NV.out.keep hb)
            clear hb
            refine run_last (by kernel_rfl) (show opAt (opsOf Tryd.f8 9) 9 = some (none, .store 56 (.tmp 8) (.tmp 36), none) from by kernel_rfl) (by kernel_rfl) (by kernel_rfl) (by kernel_rfl) (store_item (u := .int .i64 z.n) (v := .int .i64 z.d) (q := .string z.t) NV.out.out rfl rfl rfl) ?_
            refine run_done ?_
            simp only [putAll, Act.put, List.setIfInBounds_toArray, List.set_cons_zero, List.set_cons_succ]
            have BX := Lib.hid (boxI_end (z := z) NV.out.out GV.out H.out.1)
            clear NV GV H
            go_wp2_with fail
            go_meet
            exact ⟨n8, rfl, BX.out⟩
        case rest =>
          obtain ⟨wy, rfl⟩ : ∃ u : World, u = wc := ⟨_, rfl⟩
          obtain ⟨gy, rfl, hbx⟩ := hcut
          have GY := Lib.hid hbx.ge
          have AP := Lib.hid (AP.out.keep hbx.below)
          have KY1 := Lib.hid hbx.blk
          clear hbx H KYr y0 y1 y2 y3 y4 y5 y6 y7 CK
          obtain ⟨zn, zd, zt⟩ := z
          obtain ⟨⟨x0, x1, x2⟩, g0, g1, g2⟩ := three KY1.out
          by_cases hd : zd = 0
          · have UE := UZ.out
            rw [bytI_no (show (It.mk zn zd zt).d = 0 from hd)] at UE
            obtain ⟨un, ud, ut⟩ := u
            simp only [It.mk.injEq] at UE
            obtain ⟨rfl, rfl, rfl⟩ := UE
            have KY2 := KY1
            clear KY1
            have hgl := (Array.getElem?_eq_some_iff.1 KY2.out).1
            have H := Lib.hid (show HeldC w wy ([(gy, 56, #[.int .i64 zn, .int .i64 zd, .string zt]), (b, 31, #[.int .i64 2, .slice sa sn sc, .slice none 0 0, .slice na names.length nc, .slice none 0 0, .slice none 0 0, .int .i64 0, .int .i64 0])]) from ⟨AP.out.below, fun q hq => by
              simp only [List.mem_cons, List.not_mem_nil, or_false] at hq
              rcases hq with rfl | rfl
              · exact KY2.out
              · exact AP.out.vec⟩)
            have FAR := Lib.hid (fun (q : Nat × TypeId × Array Value) (hq : q ∈ ([(gy, 56, #[.int .i64 zn, .int .i64 zd, .string zt]), (b, 31, #[.int .i64 2, .slice sa sn sc, .slice none 0 0, .slice na names.length nc, .slice none 0 0, .slice none 0 0, .int .i64 0, .int .i64 0])] : List (Nat × TypeId × Array Value))) (j : Nat) (hj : (Value.slice sa sn sc).ownBlock = some j) => (by
              simp only [List.mem_cons, List.not_mem_nil, or_false] at hq
              rcases hq with rfl | rfl
              · exact fun e => by have := RL.out j hj; have := GY.out; simp only at e; omega
              · exact AP.out.far hj (.inl AP.out.lt) : q.1 ≠ j))
            go_upto_region 12 with (fail)
            refine run_region_seq (ops := (opsOf Tryd.f8 12)) (S := fun w' => HeldC w w' ([(gy, 56, #[.int .i64 zn, .int .i64 zd, .string zt]), (b, 31, #[.int .i64 2, .slice sa sn sc, .slice none 0 0, .slice na names.length nc, .slice none 0 0, .slice none 0 0, .int .i64 0, .int .i64 0])])) [(0, true), (1, true), (2, true), (3, false), (4, false), (5, true), (6, false)] (by kernel_rfl) (by kernel_rfl) (by kernel_rfl) H.out ?_
            refine runC_partV (b := b) (by kernel_rfl) (show opAt (opsOf Tryd.f8 12) 0 = some (some 44, .fieldAddr 31 (.tmp 6) 1, none) from by kernel_rfl) (by kernel_rfl) (by kernel_rfl) (by kernel_rfl) ?_
            refine runC_cell (b := b) (j := 1) (v := .slice sa sn sc) load_its (show opAt (opsOf Tryd.f8 12) 1 = some (some 45, .load 28 (.tmp 44), none) from by kernel_rfl) (by kernel_rfl) (by kernel_rfl) (by kernel_rfl) (List.Mem.tail _ (List.Mem.head _)) rfl ?_
            refine runC_itm (b := gy) (show opAt (opsOf Tryd.f8 12) 2 = some (some 46, .load 56 (.tmp 8), none) from by kernel_rfl) (by kernel_rfl) (by kernel_rfl) (by kernel_rfl) (List.Mem.head _) ?_
            refine tail_item2 ⟨zn, zd, zt⟩ (show opAt (opsOf Tryd.f8 12) 3 = some (some 47, .buildSlice 28 1 #[(0, (.tmp 46))], none) from by kernel_rfl) (by kernel_rfl) (by kernel_rfl) (show opAt (opsOf Tryd.f8 12) 4 = some (some 48, .call { callee := .builtin .append, args := [(.tmp 45), (.tmp 47)].toArray, argTypes := [28, 28].toArray }, none) from by kernel_rfl) (by kernel_rfl) (fun _ => by kernel_rfl) (show opAt (opsOf Tryd.f8 12) 5 = some (some 49, .fieldAddr 31 (.tmp 6) 1, none) from by kernel_rfl) (by kernel_rfl) (by kernel_rfl) (fun _ _ => by kernel_rfl) (show opAt (opsOf Tryd.f8 12) 6 = some (none, .store 28 (.tmp 49) (.tmp 48), none) from by kernel_rfl) (by kernel_rfl) (by kernel_rfl) H.out AP.out.row LN.out AP.out.size (Nat.le_trans AP.out.ge (Nat.le_of_lt AP.out.lt)) (List.Mem.tail _ (List.Mem.head _)) rfl AP.out.lt AP.out.ge (fun q hq => FAR.out q hq) ?_
            rintro v' w2 ⟨sa, sn, sc, rfl⟩ hK hO hB hZ hR hG
            simp only [putAll, Act.put, List.setIfInBounds_toArray, List.set_cons_zero, List.set_cons_succ]
            have AN := Lib.hid (AP.out.next hK hO hB hZ hG)
            clear hK hO hB hR hG hZ H FAR LN
            go_wp2
            go_roundw
            case rel => first | exact ⟨k + 1, sa, sn, sc, by omega, by go_num, NX.out ▸ AN.out⟩ | ((repeat apply Exists.intro); exact ⟨⟨k + 1, sa, sn, sc, by omega, by go_num, NX.out ▸ AN.out⟩, rfl⟩)
            case measure => simp [intOf]; omega
          · have UE := UZ.out
            rw [bytI_yes (show ¬ (It.mk zn zd zt).d = 0 from hd)] at UE
            subst UE
            have hts : zt.size ≤ 60 := (itOk_size OZ.out).2
            have CN := Lib.hid (fun (W : World) => NL.out W (zt.size : Int))
            clear UZ OZ
            go_wp2_with fail
            refine (CN.out _).mono ?_
            rintro e wq ⟨rfl, hbq⟩
            have AP := Lib.hid (AP.out.keep hbq)
            have KY1 := Lib.hid (blk_below hbq KY1.out)
            clear hbq x0 x1 x2 g0 g1 g2
            obtain ⟨⟨x0, x1, x2⟩, g0, g1, g2⟩ := three KY1.out
            go_upto_region 12 with (fail)
            obtain ⟨wz, hwz⟩ : ∃ W, ((wq.setCell ⟨gy, 0, none⟩ (.int .i64 (zt.size : Int))).setCell ⟨gy, 1, none⟩ (.int .i64 1)).setCell ⟨gy, 2, none⟩ (.string ⟨#[]⟩) = W := ⟨_, rfl⟩
            have KY2 := Lib.hid (show wz.heap[gy]? = some (.cells #[.int .i64 (zt.size : Int), .int .i64 1, .string ⟨#[]⟩] 56 (0, 0)) from hwz ▸ cells_set3 KY1.out)
            have AP := Lib.hid (show AppK w w0 wz b 2 (itF (fun i => bytI (cnvI K 3 (X.getD i noI))) k) sa sn sc na names.length nc from hwz ▸ AP.out.set3 (Nat.le_trans APS.out GY.out) (fun j hj => by have := RL.out j hj; have := GY.out; omega))
            rw [hwz]
            clear hwz KY1 x0 x1 x2 g0 g1 g2
            have H := Lib.hid (show HeldC w wz ([(gy, 56, #[.int .i64 ((zt.size : Int)), .int .i64 1, .string ⟨#[]⟩]), (b, 31, #[.int .i64 2, .slice sa sn sc, .slice none 0 0, .slice na names.length nc, .slice none 0 0, .slice none 0 0, .int .i64 0, .int .i64 0])]) from ⟨AP.out.below, fun q hq => by
              simp only [List.mem_cons, List.not_mem_nil, or_false] at hq
              rcases hq with rfl | rfl
              · exact KY2.out
              · exact AP.out.vec⟩)
            have FAR := Lib.hid (fun (q : Nat × TypeId × Array Value) (hq : q ∈ ([(gy, 56, #[.int .i64 ((zt.size : Int)), .int .i64 1, .string ⟨#[]⟩]), (b, 31, #[.int .i64 2, .slice sa sn sc, .slice none 0 0, .slice na names.length nc, .slice none 0 0, .slice none 0 0, .int .i64 0, .int .i64 0])] : List (Nat × TypeId × Array Value))) (j : Nat) (hj : (Value.slice sa sn sc).ownBlock = some j) => (by
              simp only [List.mem_cons, List.not_mem_nil, or_false] at hq
              rcases hq with rfl | rfl
              · exact fun e => by have := RL.out j hj; have := GY.out; simp only at e; omega
              · exact AP.out.far hj (.inl AP.out.lt) : q.1 ≠ j))
            refine run_region_seq (ops := (opsOf Tryd.f8 12)) (S := fun w' => HeldC w w' ([(gy, 56, #[.int .i64 ((zt.size : Int)), .int .i64 1, .string ⟨#[]⟩]), (b, 31, #[.int .i64 2, .slice sa sn sc, .slice none 0 0, .slice na names.length nc, .slice none 0 0, .slice none 0 0, .int .i64 0, .int .i64 0])])) [(0, true), (1, true), (2, true), (3, false), (4, false), (5, true), (6, false)] (by kernel_rfl) (by kernel_rfl) (by kernel_rfl) H.out ?_
            refine runC_partV (b := b) (by kernel_rfl) (show opAt (opsOf Tryd.f8 12) 0 = some (some 44, .fieldAddr 31 (.tmp 6) 1, none) from by kernel_rfl) (by kernel_rfl) (by kernel_rfl) (by kernel_rfl) ?_
            refine runC_cell (b := b) (j := 1) (v := .slice sa sn sc) load_its (show opAt (opsOf Tryd.f8 12) 1 = some (some 45, .load 28 (.tmp 44), none) from by kernel_rfl) (by kernel_rfl) (by kernel_rfl) (by kernel_rfl) (List.Mem.tail _ (List.Mem.head _)) rfl ?_
            refine runC_itm (b := gy) (show opAt (opsOf Tryd.f8 12) 2 = some (some 46, .load 56 (.tmp 8), none) from by kernel_rfl) (by kernel_rfl) (by kernel_rfl) (by kernel_rfl) (List.Mem.head _) ?_
            refine tail_item2 ⟨(zt.size : Int), 1, ⟨#[]⟩⟩ (show opAt (opsOf Tryd.f8 12) 3 = some (some 47, .buildSlice 28 1 #[(0, (.tmp 46))], none) from by kernel_rfl) (by kernel_rfl) (by kernel_rfl) (show opAt (opsOf Tryd.f8 12) 4 = some (some 48, .call { callee := .builtin .append, args := [(.tmp 45), (.tmp 47)].toArray, argTypes := [28, 28].toArray }, none) from by kernel_rfl) (by kernel_rfl) (fun _ => by kernel_rfl) (show opAt (opsOf Tryd.f8 12) 5 = some (some 49, .fieldAddr 31 (.tmp 6) 1, none) from by kernel_rfl) (by kernel_rfl) (by kernel_rfl) (fun _ _ => by kernel_rfl) (show opAt (opsOf Tryd.f8 12) 6 = some (none, .store 28 (.tmp 49) (.tmp 48), none) from by kernel_rfl) (by kernel_rfl) (by kernel_rfl) H.out AP.out.row LN.out AP.out.size (Nat.le_trans AP.out.ge (Nat.le_of_lt AP.out.lt)) (List.Mem.tail _ (List.Mem.head _)) rfl AP.out.lt AP.out.ge (fun q hq => FAR.out q hq) ?_
            rintro v' w2 ⟨sa, sn, sc, rfl⟩ hK hO hB hZ hR hG
            simp only [putAll, Act.put, List.setIfInBounds_toArray, List.set_cons_zero, List.set_cons_succ]
            have AN := Lib.hid (AP.out.next hK hO hB hZ hG)
            clear hK hO hB hR hG hZ H FAR LN
            go_wp2
            go_roundw
            case rel => first | exact ⟨k + 1, sa, sn, sc, by omega, by go_num, NX.out ▸ AN.out⟩ | ((repeat apply Exists.intro); exact ⟨⟨k + 1, sa, sn, sc, by omega, by go_num, NX.out ▸ AN.out⟩, rfl⟩)
            case measure => simp [intOf]; omega
      · obtain rfl : k = n := by omega
        have K1 := Lib.hid AP.out.vec
        have K0 := Lib.hid (AP.out.blk KR.out (by omega))
        have FN := Lib.hid (AP.out.fin (r := w.heap.size + 1) HT.out HND.out (fun g hg => by have := HRG.out g hg; have := AP.out.lt; omega) HCP.out (by have := AP.out.lt; omega))
        obtain ⟨k0, k1, k2, k3, k4, k5, k6, k7⟩ := vec8 K1.out
        obtain ⟨z0, z1, z2, z3, z4, z5, z6, z7⟩ := vec8 K0.out
        obtain ⟨f0, f1, f2, f3, f4, f5, f6, f7⟩ := free8 K0.out
        go_wp2
        rw [XV1.out, XS1.out]
        exact vec_endS rfl rfl rfl rfl K0.out FN.out.withS
  · have XV1 := Lib.hid (cbV_no hs)
    obtain ⟨R, hR⟩ : ∃ R, atmS VV = R := ⟨_, rfl⟩
    have XS1 := Lib.hid hR
    rw [hR] at hs ⊢
    have hRb : (R.toList == []) = false := by have h := str_not hs; rw [ByteArray.toList_eq ⟨#[]⟩] at h; exact h
    clear hs hR
    have K0 := Lib.hid KR.out
    obtain ⟨z0, z1, z2, z3, z4, z5, z6, z7⟩ := vec8 K0.out
    obtain ⟨f0, f1, f2, f3, f4, f5, f6, f7⟩ := free8 K0.out
    go_wp2
    rw [XV1.out, XS1.out]
    exact vec_endS rfl rfl rfl rfl K0.out (zeroS _ w _ (put8_below B2.out (Nat.le_succ _)))
end Go.Proofs.YtjpdnabfpiengaaDoor
