/- Elements converted to a later kind and taken plain: both sides. -/
import Derived.Test.YtddebgmjolojeaaDoorRows
import Derived.Test.YtddebgmjolojeaaDoorMt2
import Derived.Test.YtddebgmjolojeaaDoorMt1
import Derived.Test.YtddebgmjolojeaaDoorVecIs
import Derived.Test.YtddebgmjolojeaaDoorVecStr
import Derived.Test.YtddebgmjolojeaaDoorVecStrI
import Derived.WalkKit
import Derived.OwnWalk
import Derived.Deep.DeepCutAuto
import Derived.Lib.Hide
import Derived.Maps.AppendAt
import Derived.Deep.MidRow
import Derived.Laws.EntriesVeiled
namespace Go.Proofs.YtddebgmjolojeaaDoor
open Go.RowKit
set_option maxRecDepth 100000
set_option linter.unusedVariables false

theorem implFmtLog (n d : Int) (t : ByteArray) (w : World) :
    Calls Tryd.prog 78 #[.agg #[.int .i64 n, .int .i64 d, .string t]] w fun e w' => e = .returned (.string (if n = 0 then falB else truB)) ∧ Below w.heap.size w w' := by
  by_cases h : n = 0
  · subst h
    go_enter Tryd.func78, Tryd.ntmps78
    go_wp2
    go_ret
    exact ⟨rfl, below1 w _⟩
  · have hb : (n == 0) = false := by simp [h]
    rw [if_neg h]
    go_enter Tryd.func78, Tryd.ntmps78
    go_wp2
    go_ret
    exact ⟨rfl, below1 w _⟩
set_option maxHeartbeats 4000000 in
theorem implCnvS (k j n d : Int) (t : ByteArray) (w : World) (h0 : 0 ≤ k) (hk : k ≤ j) (hj : j ≤ 3) (hs : k = j ∨ j ≠ 3) :
    Calls Tryd.prog 66 #[.agg #[.int .i64 n, .int .i64 d, .string t], .int .i64 k, .int .i64 j] w (fun e w' => e = .returned (.agg #[.int .i64 n, .int .i64 d, .string t]) ∧ Below w.heap.size w w') := by
  have hsz : (w.alloc (.cells #[.int .i64 n, .int .i64 d, .string t] 67)).heap.size = w.heap.size + 1 := by simp
  rcases (show (j = 3 ∧ k = 3) ∨ (j = 2 ∧ k = 2) ∨ (j = 2 ∧ k = 1) ∨ (j = 2 ∧ k = 0) ∨ (j = 1 ∧ k = 1) ∨ (j = 1 ∧ k = 0) ∨ (j = 0 ∧ k = 0) by omega) with ⟨rfl, rfl⟩ | ⟨rfl, rfl⟩ | ⟨rfl, rfl⟩ | ⟨rfl, rfl⟩ | ⟨rfl, rfl⟩ | ⟨rfl, rfl⟩ | ⟨rfl, rfl⟩
  all_goals
    clear h0 hk hj hs
    go_enter Tryd.func66, Tryd.ntmps66
    go_wp2
    first | exact item_ret0 rfl rfl rfl (blk_new _ _ hsz.symm) ⟨rfl, below2 w _ _⟩ | exact item_ret0 rfl rfl rfl (blk_new _ _ rfl) ⟨rfl, below2 w _ _⟩ | exact item_ret rfl rfl rfl (blk_new _ _ hsz.symm) ⟨rfl, below_three (below2 w _ _) (by simp) _ _ _⟩
set_option maxHeartbeats 4000000 in
theorem implCnv0 (k : Int) (w : World) (h0 : 0 ≤ k) (hk : k ≤ 2) :
    Calls Tryd.prog 66 #[.agg #[.int .i64 0, .int .i64 0, .string ⟨#[]⟩], .int .i64 k, .int .i64 3] w (fun e w' => e = .returned (.agg #[.int .i64 0, .int .i64 0, .string ⟨#[]⟩]) ∧ Below w.heap.size w w') := by
  have hsz : (w.alloc (.cells #[.int .i64 0, .int .i64 0, .string ⟨#[]⟩] 67)).heap.size = w.heap.size + 1 := by simp
  rcases (show k = 0 ∨ k = 1 ∨ k = 2 by omega) with rfl | rfl | rfl
  all_goals
    clear h0 hk
    go_enter Tryd.func66, Tryd.ntmps66
    go_wp2
    first | exact item_ret0 rfl rfl rfl (blk_new _ _ hsz.symm) ⟨rfl, below2 w _ _⟩ | exact item_ret0 rfl rfl rfl (blk_new _ _ rfl) ⟨rfl, below2 w _ _⟩ | exact item_ret rfl rfl rfl (blk_new _ _ hsz.symm) ⟨rfl, below_three (below2 w _ _) (by simp) _ _ _⟩
set_option maxHeartbeats 4000000 in
theorem implCnvL (n : Int) (w : World) (hn : n = 0 ∨ n = 1) :
    Calls Tryd.prog 66 #[.agg #[.int .i64 n, .int .i64 1, .string ⟨#[]⟩], .int .i64 1, .int .i64 3] w (fun e w' => e = .returned (.agg #[.int .i64 0, .int .i64 1, .string (if n = 0 then falB else truB)]) ∧ Below w.heap.size w w') := by
  obtain ⟨V, hV⟩ : ∃ V, (if n = 0 then falB else truB) = V := ⟨_, rfl⟩
  have CT := Lib.hid (fun (W : World) (_ : Below w.heap.size w W) => implTxtItem V W)
  have CF := Lib.hid (fun (W : World) (_ : Below w.heap.size w W) => (by have h := implFmtLog n 1 ⟨#[]⟩ W; rw [hV] at h; exact h : Calls Tryd.prog 78 #[.agg #[.int .i64 n, .int .i64 1, .string ⟨#[]⟩]] W fun e w' => e = .returned (.string V) ∧ Below W.heap.size W w'))
  rw [hV]
  clear hV hn
  have hsz : (w.alloc (.cells #[.int .i64 n, .int .i64 1, .string ⟨#[]⟩] 67)).heap.size = w.heap.size + 1 := by simp
  obtain ⟨w1, hw1⟩ : ∃ W, (w.alloc (.cells #[.int .i64 n, .int .i64 1, .string ⟨#[]⟩] 67)).alloc (.cells #[.int .i64 0, .int .i64 0, .string ⟨#[]⟩] 67) = W := ⟨_, rfl⟩
  have B1 := Lib.hid (show Below w.heap.size w w1 from hw1 ▸ below2 w _ _)
  have KX := Lib.hid (show w1.heap[w.heap.size]? = some (.cells #[.int .i64 n, .int .i64 1, .string ⟨#[]⟩] 67 (0, 0)) from hw1 ▸ blk_old (blk_new w _ rfl))
  have KZ := Lib.hid (show w1.heap[w.heap.size + 1]? = some (.cells #[.int .i64 0, .int .i64 0, .string ⟨#[]⟩] 67 (0, 0)) from by rw [← hw1]; exact blk_new _ _ hsz.symm)
  have EW := Lib.hid hw1
  clear hw1 hsz
  go_enter Tryd.func66, Tryd.ntmps66
  go_wp2_with fail
  rw [EW.out]
  refine (CF.out w1 B1.out).mono ?_
  rintro e w2 ⟨rfl, b⟩
  have B2 := Lib.hid (below_then B1.out b)
  have KX2 := Lib.hid (blk_below b KX.out)
  have KZ2 := Lib.hid (blk_below b KZ.out)
  clear b
  go_wp2_with fail
  refine (CT.out w2 B2.out).mono ?_
  rintro e w3 ⟨rfl, b⟩
  have B3 := Lib.hid (below_then B2.out b)
  have KX3 := Lib.hid (blk_below b KX2.out)
  have KZ3 := Lib.hid (blk_below b KZ2.out)
  clear b
  obtain ⟨⟨z0, z1, z2⟩, f0, f1, f2⟩ := three KZ3.out
  go_wp2
  exact item_ret rfl rfl rfl KZ3.out ⟨rfl, below_three B3.out (by omega) _ _ _⟩
set_option maxHeartbeats 4000000 in
theorem implCnvN (n d : Int) (t : ByteArray) (w : World) (h : isN ⟨n, d, t⟩ = true) (tab : Lib.TabIs Tryd.prog w "internal/strconv.uint64pow10" .u64 Lib.pow10Tab) :
    Calls Tryd.prog 66 #[.agg #[.int .i64 n, .int .i64 d, .string t], .int .i64 2, .int .i64 3] w (fun e w' => e = .returned (.agg #[.int .i64 0, .int .i64 1, .string (txI ⟨n, d, t⟩)]) ∧ Below w.heap.size w w') := by
  have hi := isN_iff.1 h
  have ht : t.size ≤ 9223372036854775807 := by have : t = ⟨#[]⟩ := hi.1; rw [this]; exact Nat.zero_le _
  have hd : d ≠ 0 := by have := hi.2.1; simp only at this; omega
  have hdb : (d == 0) = false := by simp [hd]
  have TB := Lib.hid tab
  have CF := Lib.hid (fun (W : World) (hb : Below w.heap.size w W) => implTxI n d t W ht (tab_below TB.out hb))
  obtain ⟨V, hV⟩ : ∃ V, txI ⟨n, d, t⟩ = V := ⟨_, rfl⟩
  rw [hV] at CF ⊢
  have CT := Lib.hid (fun (W : World) (_ : Below w.heap.size w W) => implTxtItem V W)
  clear hV hi h ht tab
  have hsz : (w.alloc (.cells #[.int .i64 n, .int .i64 d, .string t] 67)).heap.size = w.heap.size + 1 := by simp
  obtain ⟨w1, hw1⟩ : ∃ W, (w.alloc (.cells #[.int .i64 n, .int .i64 d, .string t] 67)).alloc (.cells #[.int .i64 0, .int .i64 0, .string ⟨#[]⟩] 67) = W := ⟨_, rfl⟩
  have B1 := Lib.hid (show Below w.heap.size w w1 from hw1 ▸ below2 w _ _)
  have KX := Lib.hid (show w1.heap[w.heap.size]? = some (.cells #[.int .i64 n, .int .i64 d, .string t] 67 (0, 0)) from hw1 ▸ blk_old (blk_new w _ rfl))
  have KZ := Lib.hid (show w1.heap[w.heap.size + 1]? = some (.cells #[.int .i64 0, .int .i64 0, .string ⟨#[]⟩] 67 (0, 0)) from by rw [← hw1]; exact blk_new _ _ hsz.symm)
  have EW := Lib.hid hw1
  clear hw1 hsz
  go_enter Tryd.func66, Tryd.ntmps66
  go_wp2_with fail
  rw [EW.out]
  refine (CF.out w1 B1.out).mono ?_
  rintro e w2 ⟨rfl, b⟩
  have B2 := Lib.hid (below_then B1.out b)
  have KX2 := Lib.hid (blk_below b KX.out)
  have KZ2 := Lib.hid (blk_below b KZ.out)
  clear b
  go_wp2_with fail
  refine (CT.out w2 B2.out).mono ?_
  rintro e w3 ⟨rfl, b⟩
  have B3 := Lib.hid (below_then B2.out b)
  have KX3 := Lib.hid (blk_below b KX2.out)
  have KZ3 := Lib.hid (blk_below b KZ2.out)
  clear b
  obtain ⟨⟨z0, z1, z2⟩, f0, f1, f2⟩ := three KZ3.out
  go_wp2
  exact item_ret rfl rfl rfl KZ3.out ⟨rfl, below_three B3.out (by omega) _ _ _⟩
theorem implCnv (k j : Int) (x : It) (w : World) (h : ItOk k x) (h0 : 0 ≤ k) (hk : k ≤ j) (hj : j ≤ 3) (tab : Lib.TabIs Tryd.prog w "internal/strconv.uint64pow10" .u64 Lib.pow10Tab) :
    Calls Tryd.prog 66 #[.agg #[.int .i64 x.n, .int .i64 x.d, .string x.t], .int .i64 k, .int .i64 j] w (fun e w' => e = .returned (.agg #[.int .i64 (cnvI k j x).n, .int .i64 (cnvI k j x).d, .string (cnvI k j x).t]) ∧ Below w.heap.size w w') := by
  by_cases hs : k = j ∨ j ≠ 3
  · rw [cnv_same (hs.imp id .inl)]
    exact implCnvS k j x.n x.d x.t w h0 hk hj hs
  · obtain rfl : j = 3 := by omega
    rcases h with rfl | ⟨rfl, h1, h2, h3, h4⟩ | ⟨rfl, h1⟩ | ⟨rfl, h1⟩
    · rw [cnv_same (.inr (.inr rfl))]
      exact implCnv0 k w h0 (by omega)
    · obtain ⟨n, d, t⟩ := x
      obtain rfl : t = ⟨#[]⟩ := empty_of_size h4
      obtain rfl : d = 1 := h1
      rw [cnv_log (show (1 : Int) ≠ 0 by decide)]
      exact implCnvL n w (by simp only at h2 h3; omega)
    · have hi := isN_iff.1 h1
      rw [cnv_num (by omega)]
      exact implCnvN x.n x.d x.t w h1 tab
    · omega
set_option maxHeartbeats 4000000 in
theorem specCnvS (k j n d : Int) (t : ByteArray) (w : World) (h0 : 0 ≤ k) (hk : k ≤ j) (hj : j ≤ 3) (hs : k = j ∨ j ≠ 3) :
    Calls Tryd.prog 63 #[.int .i64 k, .int .i64 j, .agg #[.int .i64 n, .int .i64 d, .string t]] w (fun e w' => e = .returned (.agg #[.int .i64 n, .int .i64 d, .string t]) ∧ Below w.heap.size w w') := by
  have hsz : (w.alloc (.cells #[.int .i64 n, .int .i64 d, .string t] 67)).heap.size = w.heap.size + 1 := by simp
  rcases (show (j = 3 ∧ k = 3) ∨ (j = 2 ∧ k = 2) ∨ (j = 2 ∧ k = 1) ∨ (j = 2 ∧ k = 0) ∨ (j = 1 ∧ k = 1) ∨ (j = 1 ∧ k = 0) ∨ (j = 0 ∧ k = 0) by omega) with ⟨rfl, rfl⟩ | ⟨rfl, rfl⟩ | ⟨rfl, rfl⟩ | ⟨rfl, rfl⟩ | ⟨rfl, rfl⟩ | ⟨rfl, rfl⟩ | ⟨rfl, rfl⟩
  all_goals
    clear h0 hk hj hs
    go_enter Tryd.func63, Tryd.ntmps63
    go_wp2
    first | exact item_ret0 rfl rfl rfl (blk_new _ _ hsz.symm) ⟨rfl, below2 w _ _⟩ | exact item_ret0 rfl rfl rfl (blk_new _ _ rfl) ⟨rfl, below2 w _ _⟩ | exact item_ret rfl rfl rfl (blk_new _ _ hsz.symm) ⟨rfl, below_three (below2 w _ _) (by simp) _ _ _⟩
set_option maxHeartbeats 4000000 in
theorem specCnv0 (k : Int) (w : World) (h0 : 0 ≤ k) (hk : k ≤ 2) :
    Calls Tryd.prog 63 #[.int .i64 k, .int .i64 3, .agg #[.int .i64 0, .int .i64 0, .string ⟨#[]⟩]] w (fun e w' => e = .returned (.agg #[.int .i64 0, .int .i64 0, .string ⟨#[]⟩]) ∧ Below w.heap.size w w') := by
  have hsz : (w.alloc (.cells #[.int .i64 0, .int .i64 0, .string ⟨#[]⟩] 67)).heap.size = w.heap.size + 1 := by simp
  rcases (show k = 0 ∨ k = 1 ∨ k = 2 by omega) with rfl | rfl | rfl
  all_goals
    clear h0 hk
    go_enter Tryd.func63, Tryd.ntmps63
    go_wp2
    first | exact item_ret0 rfl rfl rfl (blk_new _ _ hsz.symm) ⟨rfl, below2 w _ _⟩ | exact item_ret0 rfl rfl rfl (blk_new _ _ rfl) ⟨rfl, below2 w _ _⟩ | exact item_ret rfl rfl rfl (blk_new _ _ hsz.symm) ⟨rfl, below_three (below2 w _ _) (by simp) _ _ _⟩
set_option maxHeartbeats 4000000 in
theorem specCnvL (n : Int) (w : World) (hn : n = 0 ∨ n = 1) :
    Calls Tryd.prog 63 #[.int .i64 1, .int .i64 3, .agg #[.int .i64 n, .int .i64 1, .string ⟨#[]⟩]] w (fun e w' => e = .returned (.agg #[.int .i64 0, .int .i64 1, .string (if n = 0 then falB else truB)]) ∧ Below w.heap.size w w') := by
  rcases hn with rfl | rfl
  · have CT := Lib.hid (fun (W : World) => specTxtItem falB W)
    have hsz : (w.alloc (.cells #[.int .i64 0, .int .i64 1, .string ⟨#[]⟩] 67)).heap.size = w.heap.size + 1 := by simp
    obtain ⟨w1, hw1⟩ : ∃ W, (w.alloc (.cells #[.int .i64 0, .int .i64 1, .string ⟨#[]⟩] 67)).alloc (.cells #[.int .i64 0, .int .i64 0, .string ⟨#[]⟩] 67) = W := ⟨_, rfl⟩
    have B1 := Lib.hid (show Below w.heap.size w w1 from hw1 ▸ below2 w _ _)
    have KZ := Lib.hid (show w1.heap[w.heap.size + 1]? = some (.cells #[.int .i64 0, .int .i64 0, .string ⟨#[]⟩] 67 (0, 0)) from by rw [← hw1]; exact blk_new _ _ hsz.symm)
    have EW := Lib.hid hw1
    clear hw1 hsz
    go_enter Tryd.func63, Tryd.ntmps63
    go_wp2_with fail
    rw [EW.out]
    refine (CT.out _).mono ?_
    rintro e w3 ⟨rfl, b⟩
    have b0 : Below w1.heap.size w1 w3 := below_then (below1 w1 _) b
    have B2 := Lib.hid (below_then B1.out b0)
    have KZ2 := Lib.hid (blk_below b0 KZ.out)
    clear b b0
    obtain ⟨⟨z0, z1, z2⟩, f0, f1, f2⟩ := three KZ2.out
    go_wp2
    exact item_ret rfl rfl rfl KZ2.out ⟨rfl, below_three B2.out (by omega) _ _ _⟩
  · have CT := Lib.hid (fun (W : World) => specTxtItem truB W)
    have hsz : (w.alloc (.cells #[.int .i64 1, .int .i64 1, .string ⟨#[]⟩] 67)).heap.size = w.heap.size + 1 := by simp
    obtain ⟨w1, hw1⟩ : ∃ W, (w.alloc (.cells #[.int .i64 1, .int .i64 1, .string ⟨#[]⟩] 67)).alloc (.cells #[.int .i64 0, .int .i64 0, .string ⟨#[]⟩] 67) = W := ⟨_, rfl⟩
    have B1 := Lib.hid (show Below w.heap.size w w1 from hw1 ▸ below2 w _ _)
    have KZ := Lib.hid (show w1.heap[w.heap.size + 1]? = some (.cells #[.int .i64 0, .int .i64 0, .string ⟨#[]⟩] 67 (0, 0)) from by rw [← hw1]; exact blk_new _ _ hsz.symm)
    have EW := Lib.hid hw1
    clear hw1 hsz
    go_enter Tryd.func63, Tryd.ntmps63
    go_wp2_with fail
    rw [EW.out]
    refine (CT.out _).mono ?_
    rintro e w3 ⟨rfl, b⟩
    have b0 : Below w1.heap.size w1 w3 := below_then (below1 w1 _) b
    have B2 := Lib.hid (below_then B1.out b0)
    have KZ2 := Lib.hid (blk_below b0 KZ.out)
    clear b b0
    obtain ⟨⟨z0, z1, z2⟩, f0, f1, f2⟩ := three KZ2.out
    go_wp2
    exact item_ret rfl rfl rfl KZ2.out ⟨rfl, below_three B2.out (by omega) _ _ _⟩
set_option maxHeartbeats 4000000 in
theorem specCnvN (n d : Int) (t : ByteArray) (w : World) (h : isN ⟨n, d, t⟩ = true) :
    Calls Tryd.prog 63 #[.int .i64 2, .int .i64 3, .agg #[.int .i64 n, .int .i64 d, .string t]] w (fun e w' => e = .returned (.agg #[.int .i64 0, .int .i64 1, .string (txI ⟨n, d, t⟩)]) ∧ Below w.heap.size w w') := by
  have hi := isN_iff.1 h
  have ht : t.size ≤ 9223372036854775807 := by have : t = ⟨#[]⟩ := hi.1; rw [this]; exact Nat.zero_le _
  have hd : d ≠ 0 := by have := hi.2.1; simp only at this; omega
  have hdb : (d == 0) = false := by simp [hd]
  have CF := Lib.hid (fun (W : World) (hb : Below w.heap.size w W) => specTxI n d t W ht)
  obtain ⟨V, hV⟩ : ∃ V, txI ⟨n, d, t⟩ = V := ⟨_, rfl⟩
  rw [hV] at CF ⊢
  have CT := Lib.hid (fun (W : World) (_ : Below w.heap.size w W) => specTxtItem V W)
  clear hV hi h ht
  have hsz : (w.alloc (.cells #[.int .i64 n, .int .i64 d, .string t] 67)).heap.size = w.heap.size + 1 := by simp
  obtain ⟨w1, hw1⟩ : ∃ W, (w.alloc (.cells #[.int .i64 n, .int .i64 d, .string t] 67)).alloc (.cells #[.int .i64 0, .int .i64 0, .string ⟨#[]⟩] 67) = W := ⟨_, rfl⟩
  have B1 := Lib.hid (show Below w.heap.size w w1 from hw1 ▸ below2 w _ _)
  have KX := Lib.hid (show w1.heap[w.heap.size]? = some (.cells #[.int .i64 n, .int .i64 d, .string t] 67 (0, 0)) from hw1 ▸ blk_old (blk_new w _ rfl))
  have KZ := Lib.hid (show w1.heap[w.heap.size + 1]? = some (.cells #[.int .i64 0, .int .i64 0, .string ⟨#[]⟩] 67 (0, 0)) from by rw [← hw1]; exact blk_new _ _ hsz.symm)
  have EW := Lib.hid hw1
  clear hw1 hsz
  go_enter Tryd.func63, Tryd.ntmps63
  go_wp2_with fail
  rw [EW.out]
  refine (CF.out w1 B1.out).mono ?_
  rintro e w2 ⟨rfl, b⟩
  have B2 := Lib.hid (below_then B1.out b)
  have KX2 := Lib.hid (blk_below b KX.out)
  have KZ2 := Lib.hid (blk_below b KZ.out)
  clear b
  go_wp2_with fail
  refine (CT.out w2 B2.out).mono ?_
  rintro e w3 ⟨rfl, b⟩
  have B3 := Lib.hid (below_then B2.out b)
  have KX3 := Lib.hid (blk_below b KX2.out)
  have KZ3 := Lib.hid (blk_below b KZ2.out)
  clear b
  obtain ⟨⟨z0, z1, z2⟩, f0, f1, f2⟩ := three KZ3.out
  go_wp2
  exact item_ret rfl rfl rfl KZ3.out ⟨rfl, below_three B3.out (by omega) _ _ _⟩
theorem specCnv (k j : Int) (x : It) (w : World) (h : ItOk k x) (h0 : 0 ≤ k) (hk : k ≤ j) (hj : j ≤ 3) :
    Calls Tryd.prog 63 #[.int .i64 k, .int .i64 j, .agg #[.int .i64 x.n, .int .i64 x.d, .string x.t]] w (fun e w' => e = .returned (.agg #[.int .i64 (cnvI k j x).n, .int .i64 (cnvI k j x).d, .string (cnvI k j x).t]) ∧ Below w.heap.size w w') := by
  by_cases hs : k = j ∨ j ≠ 3
  · rw [cnv_same (hs.imp id .inl)]
    exact specCnvS k j x.n x.d x.t w h0 hk hj hs
  · obtain rfl : j = 3 := by omega
    rcases h with rfl | ⟨rfl, h1, h2, h3, h4⟩ | ⟨rfl, h1⟩ | ⟨rfl, h1⟩
    · rw [cnv_same (.inr (.inr rfl))]
      exact specCnv0 k w h0 (by omega)
    · obtain ⟨n, d, t⟩ := x
      obtain rfl : t = ⟨#[]⟩ := empty_of_size h4
      obtain rfl : d = 1 := h1
      rw [cnv_log (show (1 : Int) ≠ 0 by decide)]
      exact specCnvL n w (by simp only at h2 h3; omega)
    · have hi := isN_iff.1 h1
      rw [cnv_num (by omega)]
      exact specCnvN x.n x.d x.t w h1
    · omega
set_option maxHeartbeats 4000000 in
theorem implPlnS (n d : Int) (t : ByteArray) (al : Option Addr) (nl cl : Nat) (w : World) (h : (n = 0 ∧ d = 0 ∧ t.size = 0) ∨ (nl = 0 ∧ d ≠ 0)) :
    Calls Tryd.prog 70 #[.agg #[.int .i64 n, .int .i64 d, .string t], .slice al nl cl] w fun e w' => e = .returned (.agg #[.int .i64 n, .int .i64 d, .string t]) ∧ Below w.heap.size w w' := by
  have hsz : (w.alloc (.cells #[.int .i64 n, .int .i64 d, .string t] 67)).heap.size = w.heap.size + 1 := by simp
  rcases h with ⟨rfl, rfl, h⟩ | ⟨rfl, h⟩
  · obtain rfl := empty_of_size h
    clear h
    go_enter Tryd.func70, Tryd.ntmps70
    go_wp2
    first | exact item_ret0 rfl rfl rfl (blk_new _ _ hsz.symm) ⟨rfl, below2 w _ _⟩ | exact item_ret0 rfl rfl rfl (blk_new _ _ rfl) ⟨rfl, below2 w _ _⟩ | exact item_ret rfl rfl rfl (blk_new _ _ hsz.symm) ⟨rfl, below_three (below2 w _ _) (by simp) _ _ _⟩
  · have hdb : (d == 0) = false := by simp [h]
    clear h
    go_enter Tryd.func70, Tryd.ntmps70
    go_wp2
    first | exact item_ret0 rfl rfl rfl (blk_new _ _ hsz.symm) ⟨rfl, below2 w _ _⟩ | exact item_ret0 rfl rfl rfl (blk_new _ _ rfl) ⟨rfl, below2 w _ _⟩ | exact item_ret rfl rfl rfl (blk_new _ _ hsz.symm) ⟨rfl, below_three (below2 w _ _) (by simp) _ _ _⟩
set_option maxHeartbeats 4000000 in
theorem implPlnL (n d : Int) (t s : ByteArray) (b off nl cl m : Nat) (w : World) (hd : d ≠ 0) (hn : n - 1 = (m : Int)) (hm : m < nl) (hl : nl ≤ 20) (hb : b < w.heap.size) (hc : w.cell? ⟨b, off + m, none⟩ = some (.string s)) :
    Calls Tryd.prog 70 #[.agg #[.int .i64 n, .int .i64 d, .string t], .slice (some ⟨b, off, none⟩) nl cl] w fun e w' => e = .returned (.agg #[.int .i64 0, .int .i64 1, .string s]) ∧ Below w.heap.size w w' := by
  have hdb : (d == 0) = false := by simp [hd]
  have hnl : ((nl : Int) == 0) = false := by simp; omega
  have CT := Lib.hid (fun (W : World) (_ : Below w.heap.size w W) => implTxtItem s W)
  have hsz : (w.alloc (.cells #[.int .i64 n, .int .i64 d, .string t] 67)).heap.size = w.heap.size + 1 := by simp
  obtain ⟨w1, hw1⟩ : ∃ W, (w.alloc (.cells #[.int .i64 n, .int .i64 d, .string t] 67)).alloc (.cells #[.int .i64 0, .int .i64 0, .string ⟨#[]⟩] 67) = W := ⟨_, rfl⟩
  have B1 := Lib.hid (show Below w.heap.size w w1 from hw1 ▸ below2 w _ _)
  have KX := Lib.hid (show w1.heap[w.heap.size]? = some (.cells #[.int .i64 n, .int .i64 d, .string t] 67 (0, 0)) from hw1 ▸ blk_old (blk_new w _ rfl))
  have KZ := Lib.hid (show w1.heap[w.heap.size + 1]? = some (.cells #[.int .i64 0, .int .i64 0, .string ⟨#[]⟩] 67 (0, 0)) from by rw [← hw1]; exact blk_new _ _ hsz.symm)
  have EW := Lib.hid hw1
  clear hw1 hsz
  have hc1 : w1.cell? ⟨b, off + m, none⟩ = some (.string s) := ((bcell B1.out).1 _ _ hb).trans hc
  have hf1 : w1.frozen? ⟨b, off + m, none⟩ = w.frozen? ⟨b, off + m, none⟩ := (bcell B1.out).2 _ _ hb
  go_enter Tryd.func70, Tryd.ntmps70
  go_wp2_with fail
  rw [EW.out]
  refine (CT.out w1 B1.out).mono ?_
  rintro e w2 ⟨rfl, b⟩
  have B2 := Lib.hid (below_then B1.out b)
  have KX2 := Lib.hid (blk_below b KX.out)
  have KZ2 := Lib.hid (blk_below b KZ.out)
  clear b
  obtain ⟨⟨z0, z1, z2⟩, f0, f1, f2⟩ := three KZ2.out
  go_wp2
  exact item_ret rfl rfl rfl KZ2.out ⟨rfl, below_three B2.out (by omega) _ _ _⟩
theorem itOk_d0 {k : Int} {x : It} (h : ItOk k x) (hd : x.d = 0) : x = noI := by
  rcases h with rfl | ⟨_, h1, _⟩ | ⟨_, h1⟩ | ⟨_, _, h1, _⟩
  · rfl
  · omega
  · have := isN_iff.1 h1; omega
  · omega
theorem implPln {kk : Int} (levels : List ByteArray) (x : It) (al : Option Addr) (cl lo hi : Nat) (w : World) (hL : TextsAt lo hi w al levels) (hhi : hi ≤ w.heap.size) (hx : ItOk kk x) (hl : LevOk levels.length x) (hn : levels.length ≤ 20) :
    Calls Tryd.prog 70 #[.agg #[.int .i64 x.n, .int .i64 x.d, .string x.t], .slice al levels.length cl] w fun e w' => e = .returned (.agg #[.int .i64 (plnI levels x).n, .int .i64 (plnI levels x).d, .string (plnI levels x).t]) ∧ Below w.heap.size w w' := by
  by_cases h : x.d = 0 ∨ levels.length = 0
  · rw [pln_same h]
    refine implPlnS x.n x.d x.t al levels.length cl w ?_
    by_cases hd : x.d = 0
    · have := itOk_d0 hx hd
      subst this
      exact .inl ⟨rfl, rfl, rfl⟩
    · exact .inr ⟨h.resolve_left hd, hd⟩
  · rw [pln_lev h]
    obtain ⟨h1, h2, h3⟩ : x.d = 1 ∧ 1 ≤ x.n ∧ x.n ≤ (levels.length : Int) := by
      rcases hl with h0 | h0 | h0
      · exact absurd (.inr h0) h
      · exact absurd (.inl h0) h
      · exact h0
    have hm : (x.n - 1).toNat < levels.length := by omega
    have hg : levels[(x.n - 1).toNat]? = some (levels.getD (x.n - 1).toNat ⟨#[]⟩) := by rw [List.getD_eq_getElem?_getD, List.getElem?_eq_getElem hm]; rfl
    obtain ⟨b, off, rfl, _, hb, hc⟩ := hL _ _ hg
    exact implPlnL x.n x.d x.t _ b off levels.length cl (x.n - 1).toNat w (by omega) (by omega) hm hn (by omega) hc
end Go.Proofs.YtddebgmjolojeaaDoor

/- plainVector and convertVector of the program. -/
namespace Go.Proofs.YtddebgmjolojeaaDoor
open Go.RowKit
set_option maxRecDepth 100000
set_option linter.unusedVariables false

theorem ResV.up {d : Nat} {V : Vec} {w W0 : World} {e : Ending} {w' : World} (h : ResV d V W0 e w') (b : Below w.heap.size w W0) : ResV d V w e w' := by
  obtain ⟨y, e1, ho, hb⟩ := h
  exact ⟨y, e1, ho.wide b.size (Nat.le_refl _), below_then b hb⟩
set_option maxHeartbeats 8000000 in
theorem implPlain (d : Nat) (kk : Int) (items : List It) (parts : List Vec) (names cls levels : List ByteArray) (code env : Int) (val : Value) (lo hi : Nat) (w : World) (hv : VecAt lo hi w d (.mk kk items parts names cls levels code env) val) (hhi : hi ≤ w.heap.size) (ok : AtmOk kk items levels) :
    Calls Tryd.prog 56 #[val] w (ResV 1 (vecOf (plnK kk levels) (plnL levels items)) w) := by
  obtain ⟨d', ai, ci, ap, cp, an, cn, ac, cc, al, cl, ed, rfl, hI, hN, hC, hL, hP⟩ := vecAt_open hv
  have AI := Lib.hid (fun (k : Nat) (w1 : World) (hk : k < items.length) (hb : Below w.heap.size w w1) => (hI.below hb hhi).at_ hk)
  have CI := Lib.hid (fun (k : Nat) (W : World) (hk : k < items.length) (hb : Below w.heap.size w W) => implPln levels (items.getD k noI) al cl lo hi W (hL.below hb hhi) (Nat.le_trans hhi hb.size) (ok.its k hk).1 (ok.its k hk).2 ok.llen)
  have li := ok.len
  have EV := Lib.hid (show vecOf (plnK kk levels) (plnL levels items) = mkN (plnK kk levels) (itF (fun i => plnI levels (items.getD i noI)) items.length) [] from rfl)
  obtain ⟨R, hR⟩ : ∃ R, vecOf (plnK kk levels) (plnL levels items) = R := ⟨_, rfl⟩
  rw [hR] at EV ⊢
  have HK : (levels.length = 0 ∧ kk = plnK kk levels) ∨ (¬ levels.length = 0 ∧ 3 = plnK kk levels) := by
    by_cases h : levels.length = 0
    · exact .inl ⟨h, (plnK_no h).symm⟩
    · exact .inr ⟨h, (plnK_yes h).symm⟩
  obtain ⟨K, hK⟩ : ∃ K, plnK kk levels = K := ⟨_, rfl⟩
  rw [hK] at EV HK
  clear hv hI hN hC hL hP ok ed hR hK
  obtain ⟨W0, hW0⟩ : ∃ W, w.alloc (.cells #[.int .i64 kk, .slice ai items.length ci, .slice ap parts.length cp, .slice an names.length cn, .slice ac cls.length cc, .slice al levels.length cl, .int .i64 code, .int .i64 env] 31) = W := ⟨_, rfl⟩
  have BW0 := Lib.hid (show Below w.heap.size w W0 from hW0 ▸ below1 w _)
  have SW0 := Lib.hid (show W0.heap.size = w.heap.size + 1 by rw [← hW0]; simp)
  have KARG0 := Lib.hid (show W0.heap[w.heap.size]? = some (.cells #[.int .i64 kk, .slice ai items.length ci, .slice ap parts.length cp, .slice an names.length cn, .slice ac cls.length cc, .slice al levels.length cl, .int .i64 code, .int .i64 env] 31 (0, 0)) from hW0 ▸ blk_new w _ rfl)
  have ST := Lib.hid (show AppN W0 ((W0.alloc (.cells #[.int .i64 0, .slice none 0 0, .slice none 0 0, .slice none 0 0, .slice none 0 0, .slice none 0 0, .int .i64 0, .int .i64 0] 31)).alloc (.cells #[.int .i64 K, .slice none 0 0, .slice none 0 0, .slice none 0 0, .slice none 0 0, .slice none 0 0, .int .i64 0, .int .i64 0] 31)) W0.heap.size (W0.heap.size + 1) K (itF (fun i => plnI levels (items.getD i noI)) 0) none 0 0 [] none 0 [] from
    ⟨blk_old (blk_new W0 _ rfl), blk_new _ _ (by simp), ⟨rfl, .inl ⟨rfl, rfl⟩⟩, .inl ⟨rfl, rfl⟩, Nat.le_refl _, List.nodup_nil, (fun _ h => by cases h), below2 W0 _ _, Nat.le_refl _, Nat.lt_succ_self _⟩)
  have EW := Lib.hid hW0
  clear hW0
  obtain ⟨n, hn⟩ : ∃ n, items.length = n := ⟨_, rfl⟩
  rw [hn] at AI CI KARG0 EW EV li ⊢
  clear hn
  obtain ⟨nl, hnl⟩ : ∃ nl, levels.length = nl := ⟨_, rfl⟩
  rw [hnl] at EW KARG0 CI HK ⊢
  clear hnl
  rcases HK with ⟨rfl, rfl⟩ | ⟨h0, rfl⟩
  · go_enter Tryd.func56, Tryd.ntmps56
    go_wp2
    rw [EW.out, ← SW0.out]
    obtain ⟨r, hr⟩ : ∃ r, W0.heap.size = r := ⟨_, rfl⟩
    rw [hr] at ST ⊢
    obtain ⟨b, hb⟩ : ∃ b, r + 1 = b := ⟨_, rfl⟩
    rw [hb] at ST ⊢
    clear hr hb EW
    go_loopw [17] (fun i wr => ∃ (k : Nat) (sa : Option Addr) (sn sc : Nat), k ≤ n ∧ i = .int .i64 k ∧ AppN W0 wr r b kk (itF (fun i => plnI levels (items.getD i noI)) k) sa sn sc [] none 0 []) (fun i _ => n - (intOf i).toNat)
    case atStart => exact ⟨0, none, 0, 0, Nat.zero_le _, rfl, ST.out⟩
    case round =>
      obtain ⟨k, sa, sn, sc, hk, rfl, hap⟩ := hrel
      have AP := Lib.hid hap
      clear hap
      by_cases hlt : k < n
      · obtain ⟨ba, off, rfl, hbB, c0, c1, c2⟩ := AI.out _ _ hlt (below_then BW0.out AP.out.below)
        have CK := Lib.hid (fun W hb => CI.out k W hlt hb)
        have NX := Lib.hid (itF_succ (fun i => plnI levels (items.getD i noI)) k)
        obtain ⟨z, hz⟩ : ∃ z : It, plnI levels (items.getD k noI) = z := ⟨_, rfl⟩
        rw [hz] at CK NX
        change wr.cell? _ = some (.string (items.getD k noI).t) at c2
        obtain ⟨x, hx⟩ : ∃ x : It, items.getD k noI = x := ⟨_, rfl⟩
        rw [hx] at c0 c1 c2 CK
        have LN := Lib.hid (show (itF (fun i => plnI levels (items.getD i noI)) k).length ≤ 1048576 by rw [itF_len]; omega)
        have hbw : ba < wr.heap.size := Nat.lt_of_lt_of_le (Nat.lt_of_lt_of_le hbB hhi) (below_then BW0.out AP.out.below).size
        have FAR := Lib.hid (fun (C : Array Value) (q : Nat × TypeId × Array Value) (hq : q ∈ (wr.heap.size, 67, C) :: (w.heap.size, 31, #[.int .i64 kk, .slice (some ⟨ba, off, none⟩) n ci, .slice ap parts.length cp, .slice an names.length cn, .slice ac cls.length cc, .slice al 0 cl, .int .i64 code, .int .i64 env]) :: [(r, 31, #[.int .i64 0, .slice none 0 0, .slice none 0 0, .slice none 0 0, .slice none 0 0, .slice none 0 0, .int .i64 0, .int .i64 0]), (b, 31, #[.int .i64 kk, .slice sa sn sc, .slice none 0 0, .slice none 0 0, .slice none 0 0, .slice none 0 0, .int .i64 0, .int .i64 0])]) (j : Nat) (hj : (Value.slice sa sn sc).ownBlock = some j) => (by
          rcases List.mem_cons.1 hq with rfl | hq
          · exact AP.out.far (C := C) (List.Mem.head _) j hj
          rcases List.mem_cons.1 hq with rfl | hq
          · have := (AP.out.row.lt j hj).1; have := AP.out.o1; have := AP.out.o2; have := SW0.out; simp only; omega
          · exact AP.out.far (C := C) (List.Mem.tail _ hq) j hj : q.1 ≠ j))
        have W0L := Lib.hid (show W0.heap.size ≤ b + 1 by have := AP.out.o1; have := AP.out.o2; omega)
        have B0L := Lib.hid (show W0.heap.size ≤ b by have := AP.out.o1; have := AP.out.o2; omega)
        have KA := Lib.hid (blk_below AP.out.below KARG0.out)
        have hbb := AP.out.big
        clear hx hz
        go_wp2
        obtain ⟨w5, hw5⟩ : ∃ W, wr.alloc (.cells #[.int .i64 x.n, .int .i64 x.d, .string x.t] 67) = W := ⟨_, rfl⟩
        have KA := Lib.hid (blk_below (show Below wr.heap.size wr w5 from hw5 ▸ below1 wr _) KA.out)
        have AP := Lib.hid (show AppN W0 w5 r b kk (itF (fun i => plnI levels (items.getD i noI)) k) sa sn sc [] none 0 [] from hw5 ▸ AP.out.keep (below1 wr _))
        have X1 := Lib.hid (show w5.heap[wr.heap.size]? = some (.cells #[.int .i64 x.n, .int .i64 x.d, .string x.t] 67 (0, 0)) from hw5 ▸ blk_new wr _ rfl)
        rw [hw5]
        clear hw5
        have H := Lib.hid (heldC_cons (heldC_cons AP.out.heldC KA.out) X1.out)
        refine run_region (ops := (opsOf Tryd.f56 7)) (S := fun w' => HeldC W0 w' ([(wr.heap.size, 67, #[.int .i64 x.n, .int .i64 x.d, .string x.t]), (w.heap.size, 31, #[.int .i64 kk, .slice (some ⟨ba, off, none⟩) n ci, .slice ap parts.length cp, .slice an names.length cn, .slice ac cls.length cc, .slice al 0 cl, .int .i64 code, .int .i64 env]), (r, 31, #[.int .i64 0, .slice none 0 0, .slice none 0 0, .slice none 0 0, .slice none 0 0, .slice none 0 0, .int .i64 0, .int .i64 0]), (b, 31, #[.int .i64 kk, .slice sa sn sc, .slice none 0 0, .slice none 0 0, .slice none 0 0, .slice none 0 0, .int .i64 0, .int .i64 0])])) [(0, true), (1, true), (2, true), (3, true), (4, true), (5, false), (6, false), (7, false), (8, true), (9, false)] (by kernel_rfl) (by kernel_rfl) (by kernel_rfl) (by kernel_rfl) (by kernel_rfl) (fun _ _ _ _ _ h => h) (heldC_drew H.out) ?_
        have H := Lib.hid (heldC_drew H.out)
        have AP := Lib.hid (AP.out.keep (below_drew' (Below.refl _ _)))
        refine runC_partV (b := b) (by kernel_rfl) (show opAt (opsOf Tryd.f56 7) 0 = some (some 21, .fieldAddr 31 (.tmp 3) 1, none) from by kernel_rfl) (by kernel_rfl) (by kernel_rfl) (by kernel_rfl) ?_
        refine runC_cell (b := b) (j := 1) (v := .slice sa sn sc) load_its (show opAt (opsOf Tryd.f56 7) 1 = some (some 22, .load 28 (.tmp 21), none) from by kernel_rfl) (by kernel_rfl) (by kernel_rfl) (by kernel_rfl) (List.Mem.tail _ (List.Mem.tail _ (List.Mem.tail _ (List.Mem.head _)))) rfl ?_
        refine runC_itm (b := wr.heap.size) (show opAt (opsOf Tryd.f56 7) 2 = some (some 23, .load 67 (.tmp 5), none) from by kernel_rfl) (by kernel_rfl) (by kernel_rfl) (by kernel_rfl) (List.Mem.head _) ?_
        refine runC_partV (b := w.heap.size) (by kernel_rfl) (show opAt (opsOf Tryd.f56 7) 3 = some (some 24, .fieldAddr 31 (.tmp 1) 5, none) from by kernel_rfl) (by kernel_rfl) (by kernel_rfl) (by kernel_rfl) ?_
        refine runC_cell (b := w.heap.size) (j := 5) (v := .slice al 0 cl) load_strs (show opAt (opsOf Tryd.f56 7) 4 = some (some 25, .load 24 (.tmp 24), none) from by kernel_rfl) (by kernel_rfl) (by kernel_rfl) (by kernel_rfl) (List.Mem.tail _ (List.Mem.head _)) rfl ?_
        refine run_call (args := [.agg #[.int .i64 x.n, .int .i64 x.d, .string x.t], .slice al 0 cl]) (show opAt (opsOf Tryd.f56 7) 5 = some (some 26, .call { callee := .value (.func 70), args := [(.tmp 23), (.tmp 25)].toArray, argTypes := [67, 24].toArray }, none) from by kernel_rfl) (by kernel_rfl) (by kernel_rfl) (by kernel_rfl) (by kernel_rfl) ?_
        refine (CK.out _ (below_then BW0.out H.out.1)).mono ?_
        rintro en rw1 ⟨rfl, hb⟩
        refine ⟨_, rfl, heldC_call H.out hb, ?_⟩
        have H := Lib.hid (heldC_call H.out hb)
        have AP := Lib.hid (AP.out.keep hb)
        clear hb
        refine tail_item2 z (show opAt (opsOf Tryd.f56 7) 6 = some (some 27, .buildSlice 28 1 #[(0, (.tmp 26))], none) from by kernel_rfl) (by kernel_rfl) (by kernel_rfl) (show opAt (opsOf Tryd.f56 7) 7 = some (some 28, .call { callee := .builtin .append, args := [(.tmp 22), (.tmp 27)].toArray, argTypes := [28, 28].toArray }, none) from by kernel_rfl) (by kernel_rfl) (fun _ => by kernel_rfl) (show opAt (opsOf Tryd.f56 7) 8 = some (some 29, .fieldAddr 31 (.tmp 3) 1, none) from by kernel_rfl) (by kernel_rfl) (by kernel_rfl) (fun _ _ => by kernel_rfl) (show opAt (opsOf Tryd.f56 7) 9 = some (none, .store 28 (.tmp 29) (.tmp 28), none) from by kernel_rfl) (by kernel_rfl) (by kernel_rfl) H.out AP.out.row LN.out (Nat.succ_le_of_lt (Array.getElem?_eq_some_iff.1 (heldC_at H.out (List.Mem.tail _ (List.Mem.tail _ (List.Mem.tail _ (List.Mem.head _)))))).1) W0L.out (List.Mem.tail _ (List.Mem.tail _ (List.Mem.tail _ (List.Mem.head _)))) rfl (Nat.lt_succ_self _) B0L.out (fun q hq => FAR.out _ q hq) ?_
        rintro v' w2 ⟨sa, sn, sc, rfl⟩ hK hO hB hZ hR hG
        simp only [putAll, Act.put, List.setIfInBounds_toArray, List.set_cons_zero, List.set_cons_succ]
        have AN := Lib.hid (AP.out.next hK hO hB (hR _ (List.Mem.tail _ (List.Mem.tail _ (List.Mem.head _))) (by have := AP.out.o2; simp only; omega)) (fun g hg => hG g (by have := AP.out.rng g hg; have := AP.out.big; omega) (by have := AP.out.rng g hg; omega) (fun j hj => by have := (AP.out.row.lt j hj).1; have := AP.out.rng g hg; omega)))
        clear hK hO hB hR hG H FAR LN
        go_wp2
        go_roundw
        case rel => exact ⟨k + 1, sa, sn, sc, by omega, by go_num, NX.out ▸ AN.out⟩
        case measure => simp [intOf]; omega
      · obtain rfl : k = n := by omega
        have K1 := Lib.hid AP.out.vec
        have K0 := Lib.hid AP.out.res
        have FN := Lib.hid AP.out.fin
        obtain ⟨k0, k1, k2, k3, k4, k5, k6, k7⟩ := vec8 K1.out
        obtain ⟨z0, z1, z2, z3, z4, z5, z6, z7⟩ := vec8 K0.out
        obtain ⟨f0, f1, f2, f3, f4, f5, f6, f7⟩ := free8 K0.out
        go_wp2
        rw [EV.out]
        exact vec_end rfl rfl rfl K0.out (FN.out.up BW0.out)
  · have hl0 : 0 < (nl : Int) := by omega
    go_enter Tryd.func56, Tryd.ntmps56
    go_wp2
    rw [EW.out, ← SW0.out]
    obtain ⟨r, hr⟩ : ∃ r, W0.heap.size = r := ⟨_, rfl⟩
    rw [hr] at ST ⊢
    obtain ⟨b, hb⟩ : ∃ b, r + 1 = b := ⟨_, rfl⟩
    rw [hb] at ST ⊢
    clear hr hb EW
    go_loopw [17] (fun i wr => ∃ (k : Nat) (sa : Option Addr) (sn sc : Nat), k ≤ n ∧ i = .int .i64 k ∧ AppN W0 wr r b 3 (itF (fun i => plnI levels (items.getD i noI)) k) sa sn sc [] none 0 []) (fun i _ => n - (intOf i).toNat)
    case atStart => exact ⟨0, none, 0, 0, Nat.zero_le _, rfl, ST.out⟩
    case round =>
      obtain ⟨k, sa, sn, sc, hk, rfl, hap⟩ := hrel
      have AP := Lib.hid hap
      clear hap
      by_cases hlt : k < n
      · obtain ⟨ba, off, rfl, hbB, c0, c1, c2⟩ := AI.out _ _ hlt (below_then BW0.out AP.out.below)
        have CK := Lib.hid (fun W hb => CI.out k W hlt hb)
        have NX := Lib.hid (itF_succ (fun i => plnI levels (items.getD i noI)) k)
        obtain ⟨z, hz⟩ : ∃ z : It, plnI levels (items.getD k noI) = z := ⟨_, rfl⟩
        rw [hz] at CK NX
        change wr.cell? _ = some (.string (items.getD k noI).t) at c2
        obtain ⟨x, hx⟩ : ∃ x : It, items.getD k noI = x := ⟨_, rfl⟩
        rw [hx] at c0 c1 c2 CK
        have LN := Lib.hid (show (itF (fun i => plnI levels (items.getD i noI)) k).length ≤ 1048576 by rw [itF_len]; omega)
        have hbw : ba < wr.heap.size := Nat.lt_of_lt_of_le (Nat.lt_of_lt_of_le hbB hhi) (below_then BW0.out AP.out.below).size
        have FAR := Lib.hid (fun (C : Array Value) (q : Nat × TypeId × Array Value) (hq : q ∈ (wr.heap.size, 67, C) :: (w.heap.size, 31, #[.int .i64 kk, .slice (some ⟨ba, off, none⟩) n ci, .slice ap parts.length cp, .slice an names.length cn, .slice ac cls.length cc, .slice al nl cl, .int .i64 code, .int .i64 env]) :: [(r, 31, #[.int .i64 0, .slice none 0 0, .slice none 0 0, .slice none 0 0, .slice none 0 0, .slice none 0 0, .int .i64 0, .int .i64 0]), (b, 31, #[.int .i64 3, .slice sa sn sc, .slice none 0 0, .slice none 0 0, .slice none 0 0, .slice none 0 0, .int .i64 0, .int .i64 0])]) (j : Nat) (hj : (Value.slice sa sn sc).ownBlock = some j) => (by
          rcases List.mem_cons.1 hq with rfl | hq
          · exact AP.out.far (C := C) (List.Mem.head _) j hj
          rcases List.mem_cons.1 hq with rfl | hq
          · have := (AP.out.row.lt j hj).1; have := AP.out.o1; have := AP.out.o2; have := SW0.out; simp only; omega
          · exact AP.out.far (C := C) (List.Mem.tail _ hq) j hj : q.1 ≠ j))
        have W0L := Lib.hid (show W0.heap.size ≤ b + 1 by have := AP.out.o1; have := AP.out.o2; omega)
        have B0L := Lib.hid (show W0.heap.size ≤ b by have := AP.out.o1; have := AP.out.o2; omega)
        have KA := Lib.hid (blk_below AP.out.below KARG0.out)
        have hbb := AP.out.big
        clear hx hz
        go_wp2
        obtain ⟨w5, hw5⟩ : ∃ W, wr.alloc (.cells #[.int .i64 x.n, .int .i64 x.d, .string x.t] 67) = W := ⟨_, rfl⟩
        have KA := Lib.hid (blk_below (show Below wr.heap.size wr w5 from hw5 ▸ below1 wr _) KA.out)
        have AP := Lib.hid (show AppN W0 w5 r b 3 (itF (fun i => plnI levels (items.getD i noI)) k) sa sn sc [] none 0 [] from hw5 ▸ AP.out.keep (below1 wr _))
        have X1 := Lib.hid (show w5.heap[wr.heap.size]? = some (.cells #[.int .i64 x.n, .int .i64 x.d, .string x.t] 67 (0, 0)) from hw5 ▸ blk_new wr _ rfl)
        rw [hw5]
        clear hw5
        have H := Lib.hid (heldC_cons (heldC_cons AP.out.heldC KA.out) X1.out)
        refine run_region (ops := (opsOf Tryd.f56 7)) (S := fun w' => HeldC W0 w' ([(wr.heap.size, 67, #[.int .i64 x.n, .int .i64 x.d, .string x.t]), (w.heap.size, 31, #[.int .i64 kk, .slice (some ⟨ba, off, none⟩) n ci, .slice ap parts.length cp, .slice an names.length cn, .slice ac cls.length cc, .slice al nl cl, .int .i64 code, .int .i64 env]), (r, 31, #[.int .i64 0, .slice none 0 0, .slice none 0 0, .slice none 0 0, .slice none 0 0, .slice none 0 0, .int .i64 0, .int .i64 0]), (b, 31, #[.int .i64 3, .slice sa sn sc, .slice none 0 0, .slice none 0 0, .slice none 0 0, .slice none 0 0, .int .i64 0, .int .i64 0])])) [(0, true), (1, true), (2, true), (3, true), (4, true), (5, false), (6, false), (7, false), (8, true), (9, false)] (by kernel_rfl) (by kernel_rfl) (by kernel_rfl) (by kernel_rfl) (by kernel_rfl) (fun _ _ _ _ _ h => h) (heldC_drew H.out) ?_
        have H := Lib.hid (heldC_drew H.out)
        have AP := Lib.hid (AP.out.keep (below_drew' (Below.refl _ _)))
        refine runC_partV (b := b) (by kernel_rfl) (show opAt (opsOf Tryd.f56 7) 0 = some (some 21, .fieldAddr 31 (.tmp 3) 1, none) from by kernel_rfl) (by kernel_rfl) (by kernel_rfl) (by kernel_rfl) ?_
        refine runC_cell (b := b) (j := 1) (v := .slice sa sn sc) load_its (show opAt (opsOf Tryd.f56 7) 1 = some (some 22, .load 28 (.tmp 21), none) from by kernel_rfl) (by kernel_rfl) (by kernel_rfl) (by kernel_rfl) (List.Mem.tail _ (List.Mem.tail _ (List.Mem.tail _ (List.Mem.head _)))) rfl ?_
        refine runC_itm (b := wr.heap.size) (show opAt (opsOf Tryd.f56 7) 2 = some (some 23, .load 67 (.tmp 5), none) from by kernel_rfl) (by kernel_rfl) (by kernel_rfl) (by kernel_rfl) (List.Mem.head _) ?_
        refine runC_partV (b := w.heap.size) (by kernel_rfl) (show opAt (opsOf Tryd.f56 7) 3 = some (some 24, .fieldAddr 31 (.tmp 1) 5, none) from by kernel_rfl) (by kernel_rfl) (by kernel_rfl) (by kernel_rfl) ?_
        refine runC_cell (b := w.heap.size) (j := 5) (v := .slice al nl cl) load_strs (show opAt (opsOf Tryd.f56 7) 4 = some (some 25, .load 24 (.tmp 24), none) from by kernel_rfl) (by kernel_rfl) (by kernel_rfl) (by kernel_rfl) (List.Mem.tail _ (List.Mem.head _)) rfl ?_
        refine run_call (args := [.agg #[.int .i64 x.n, .int .i64 x.d, .string x.t], .slice al nl cl]) (show opAt (opsOf Tryd.f56 7) 5 = some (some 26, .call { callee := .value (.func 70), args := [(.tmp 23), (.tmp 25)].toArray, argTypes := [67, 24].toArray }, none) from by kernel_rfl) (by kernel_rfl) (by kernel_rfl) (by kernel_rfl) (by kernel_rfl) ?_
        refine (CK.out _ (below_then BW0.out H.out.1)).mono ?_
        rintro en rw1 ⟨rfl, hb⟩
        refine ⟨_, rfl, heldC_call H.out hb, ?_⟩
        have H := Lib.hid (heldC_call H.out hb)
        have AP := Lib.hid (AP.out.keep hb)
        clear hb
        refine tail_item2 z (show opAt (opsOf Tryd.f56 7) 6 = some (some 27, .buildSlice 28 1 #[(0, (.tmp 26))], none) from by kernel_rfl) (by kernel_rfl) (by kernel_rfl) (show opAt (opsOf Tryd.f56 7) 7 = some (some 28, .call { callee := .builtin .append, args := [(.tmp 22), (.tmp 27)].toArray, argTypes := [28, 28].toArray }, none) from by kernel_rfl) (by kernel_rfl) (fun _ => by kernel_rfl) (show opAt (opsOf Tryd.f56 7) 8 = some (some 29, .fieldAddr 31 (.tmp 3) 1, none) from by kernel_rfl) (by kernel_rfl) (by kernel_rfl) (fun _ _ => by kernel_rfl) (show opAt (opsOf Tryd.f56 7) 9 = some (none, .store 28 (.tmp 29) (.tmp 28), none) from by kernel_rfl) (by kernel_rfl) (by kernel_rfl) H.out AP.out.row LN.out (Nat.succ_le_of_lt (Array.getElem?_eq_some_iff.1 (heldC_at H.out (List.Mem.tail _ (List.Mem.tail _ (List.Mem.tail _ (List.Mem.head _)))))).1) W0L.out (List.Mem.tail _ (List.Mem.tail _ (List.Mem.tail _ (List.Mem.head _)))) rfl (Nat.lt_succ_self _) B0L.out (fun q hq => FAR.out _ q hq) ?_
        rintro v' w2 ⟨sa, sn, sc, rfl⟩ hK hO hB hZ hR hG
        simp only [putAll, Act.put, List.setIfInBounds_toArray, List.set_cons_zero, List.set_cons_succ]
        have AN := Lib.hid (AP.out.next hK hO hB (hR _ (List.Mem.tail _ (List.Mem.tail _ (List.Mem.head _))) (by have := AP.out.o2; simp only; omega)) (fun g hg => hG g (by have := AP.out.rng g hg; have := AP.out.big; omega) (by have := AP.out.rng g hg; omega) (fun j hj => by have := (AP.out.row.lt j hj).1; have := AP.out.rng g hg; omega)))
        clear hK hO hB hR hG H FAR LN
        go_wp2
        go_roundw
        case rel => exact ⟨k + 1, sa, sn, sc, by omega, by go_num, NX.out ▸ AN.out⟩
        case measure => simp [intOf]; omega
      · obtain rfl : k = n := by omega
        have K1 := Lib.hid AP.out.vec
        have K0 := Lib.hid AP.out.res
        have FN := Lib.hid AP.out.fin
        obtain ⟨k0, k1, k2, k3, k4, k5, k6, k7⟩ := vec8 K1.out
        obtain ⟨z0, z1, z2, z3, z4, z5, z6, z7⟩ := vec8 K0.out
        obtain ⟨f0, f1, f2, f3, f4, f5, f6, f7⟩ := free8 K0.out
        go_wp2
        rw [EV.out]
        exact vec_end rfl rfl rfl K0.out (FN.out.up BW0.out)
set_option maxHeartbeats 8000000 in
theorem implConv (d : Nat) (kk j : Int) (items : List It) (parts : List Vec) (names cls levels : List ByteArray) (code env : Int) (val : Value) (lo hi : Nat) (w : World) (hv : VecAt lo hi w d (.mk kk items parts names cls levels code env) val) (hhi : hi ≤ w.heap.size) (hk0 : 0 ≤ kk) (hkj : kk ≤ j) (hj : j ≤ 3) (li : items.length ≤ 40) (ln : names.length ≤ 1048576) (hit : ∀ i, i < items.length → ItOk kk (items.getD i noI)) (tab : Lib.TabIs Tryd.prog w "internal/strconv.uint64pow10" .u64 Lib.pow10Tab) :
    Calls Tryd.prog 44 #[val, .int .i64 j] w (ResV 1 (mkN j (cnvL kk j items) names) w) := by
  obtain ⟨d', ai, ci, ap, cp, an, cn, ac, cc, al, cl, ed, rfl, hI, hN, hC, hL, hP⟩ := vecAt_open hv
  have AI := Lib.hid (fun (k : Nat) (w1 : World) (hk : k < items.length) (hb : Below w.heap.size w w1) => (hI.below hb hhi).at_ hk)
  have CI := Lib.hid (fun (k : Nat) (W : World) (hk : k < items.length) (hb : Below w.heap.size w W) => implCnv kk j (items.getD k noI) W (hit k hk) hk0 hkj hj (tab_below tab hb))
  have CC := Lib.hid (fun (w1 : World) (hb : Below w.heap.size w w1) => implCopyAny names an cn lo hi w1 (hN.below hb hhi) ln)
  have EV := Lib.hid (show mkN j (cnvL kk j items) names = mkN j (itF (fun i => cnvI kk j (items.getD i noI)) items.length) names from rfl)
  obtain ⟨R, hR⟩ : ∃ R, mkN j (cnvL kk j items) names = R := ⟨_, rfl⟩
  rw [hR] at EV ⊢
  have hj4 : (j == 4) = false := by simp only [beq_eq_false_iff_ne, ne_eq]; omega
  clear hv hI hN hC hL hP ed hR hk0 hkj hit tab
  obtain ⟨W0, hW0⟩ : ∃ W, w.alloc (.cells #[.int .i64 kk, .slice ai items.length ci, .slice ap parts.length cp, .slice an names.length cn, .slice ac cls.length cc, .slice al levels.length cl, .int .i64 code, .int .i64 env] 31) = W := ⟨_, rfl⟩
  have BW0 := Lib.hid (show Below w.heap.size w W0 from hW0 ▸ below1 w _)
  have SW0 := Lib.hid (show W0.heap.size = w.heap.size + 1 by rw [← hW0]; simp)
  have KARG0 := Lib.hid (show W0.heap[w.heap.size]? = some (.cells #[.int .i64 kk, .slice ai items.length ci, .slice ap parts.length cp, .slice an names.length cn, .slice ac cls.length cc, .slice al levels.length cl, .int .i64 code, .int .i64 env] 31 (0, 0)) from hW0 ▸ blk_new w _ rfl)
  have EW := Lib.hid hW0
  clear hW0
  obtain ⟨n, hn⟩ : ∃ n, items.length = n := ⟨_, rfl⟩
  rw [hn] at AI CI KARG0 EW EV li ⊢
  clear hn
  go_enter Tryd.func44, Tryd.ntmps44
  go_wp2_with fail
  rw [EW.out]
  obtain ⟨w1, hw1⟩ : ∃ W, W0.alloc (.cells #[.int .i64 0, .slice none 0 0, .slice none 0 0, .slice none 0 0, .slice none 0 0, .slice none 0 0, .int .i64 0, .int .i64 0] 31) = W := ⟨_, rfl⟩
  have B1 := Lib.hid (show Below W0.heap.size W0 w1 from hw1 ▸ below1 W0 _)
  have KZ1 := Lib.hid (show w1.heap[W0.heap.size]? = some (.cells #[.int .i64 0, .slice none 0 0, .slice none 0 0, .slice none 0 0, .slice none 0 0, .slice none 0 0, .int .i64 0, .int .i64 0] 31 (0, 0)) from hw1 ▸ blk_new W0 _ rfl)
  have S1 : w1.heap.size = W0.heap.size + 1 := by rw [← hw1]; simp
  rw [hw1]
  clear hw1
  with_reducible refine (CC.out _ (below_then BW0.out B1.out)).mono ?_
  rintro e w4 ⟨v, rfl, ⟨na, nc, F, rfl, hT, hnd, hr, hcap⟩, b⟩
  have B4 := Lib.hid (below_then B1.out b)
  have KZ4 := Lib.hid (blk_below b KZ1.out)
  have KARG4 := Lib.hid (blk_below B4.out KARG0.out)
  have S4 := b.size
  have ST := Lib.hid (show AppN W0 (w4.alloc (.cells #[.int .i64 j, .slice none 0 0, .slice none 0 0, .slice na names.length nc, .slice none 0 0, .slice none 0 0, .int .i64 0, .int .i64 0] 31)) W0.heap.size w4.heap.size j (itF (fun i => cnvI kk j (items.getD i noI)) 0) none 0 0 names na nc F from
    ⟨blk_old KZ4.out, blk_new w4 _ rfl, ⟨rfl, .inl ⟨rfl, rfl⟩⟩, hT.kept (fun g hg => (below1 w4 _).block g (hr g hg).2), hcap, hnd, (fun g hg => by have h1 := hr g hg; omega), B4.out.alloc B4.out.size _, Nat.le_refl _, by omega⟩)
  clear b hT hnd hr hcap S4 S1
  have hltA := (Array.getElem?_eq_some_iff.1 KARG4.out).1
  obtain ⟨k0, k1, k2, k3, k4, k5, k6, k7⟩ := vec8 KARG4.out
  go_wp2
  rw [← SW0.out]
  clear k0 k1 k2 k3 k4 k5 k6 k7 hltA
  obtain ⟨r, hr⟩ : ∃ r, W0.heap.size = r := ⟨_, rfl⟩
  rw [hr] at ST ⊢
  obtain ⟨b, hb⟩ : ∃ b, w4.heap.size = b := ⟨_, rfl⟩
  rw [hb] at ST ⊢
  clear hr hb EW
  go_loopw [22] (fun i wr => ∃ (k : Nat) (sa : Option Addr) (sn sc : Nat), k ≤ n ∧ i = .int .i64 k ∧ AppN W0 wr r b j (itF (fun i => cnvI kk j (items.getD i noI)) k) sa sn sc names na nc F) (fun i _ => n - (intOf i).toNat)
  case atStart => exact ⟨0, none, 0, 0, Nat.zero_le _, rfl, ST.out⟩
  case round =>
    obtain ⟨k, sa, sn, sc, hk, rfl, hap⟩ := hrel
    have AP := Lib.hid hap
    clear hap
    by_cases hlt : k < n
    · obtain ⟨ba, off, rfl, hbB, c0, c1, c2⟩ := AI.out _ _ hlt (below_then BW0.out AP.out.below)
      have CK := Lib.hid (fun W hb => CI.out k W hlt hb)
      have NX := Lib.hid (itF_succ (fun i => cnvI kk j (items.getD i noI)) k)
      obtain ⟨z, hz⟩ : ∃ z : It, cnvI kk j (items.getD k noI) = z := ⟨_, rfl⟩
      rw [hz] at CK NX
      change wr.cell? _ = some (.string (items.getD k noI).t) at c2
      obtain ⟨x, hx⟩ : ∃ x : It, items.getD k noI = x := ⟨_, rfl⟩
      rw [hx] at c0 c1 c2 CK
      have LN := Lib.hid (show (itF (fun i => cnvI kk j (items.getD i noI)) k).length ≤ 1048576 by rw [itF_len]; omega)
      have hbw : ba < wr.heap.size := Nat.lt_of_lt_of_le (Nat.lt_of_lt_of_le hbB hhi) (below_then BW0.out AP.out.below).size
      have FAR := Lib.hid (fun (C : Array Value) (q : Nat × TypeId × Array Value) (hq : q ∈ (wr.heap.size, 67, C) :: (w.heap.size, 31, #[.int .i64 kk, .slice (some ⟨ba, off, none⟩) n ci, .slice ap parts.length cp, .slice an names.length cn, .slice ac cls.length cc, .slice al levels.length cl, .int .i64 code, .int .i64 env]) :: [(r, 31, #[.int .i64 0, .slice none 0 0, .slice none 0 0, .slice none 0 0, .slice none 0 0, .slice none 0 0, .int .i64 0, .int .i64 0]), (b, 31, #[.int .i64 j, .slice sa sn sc, .slice none 0 0, .slice na names.length nc, .slice none 0 0, .slice none 0 0, .int .i64 0, .int .i64 0])]) (j : Nat) (hj : (Value.slice sa sn sc).ownBlock = some j) => (by
        rcases List.mem_cons.1 hq with rfl | hq
        · exact AP.out.far (C := C) (List.Mem.head _) j hj
        rcases List.mem_cons.1 hq with rfl | hq
        · have := (AP.out.row.lt j hj).1; have := AP.out.o1; have := AP.out.o2; have := SW0.out; simp only; omega
        · exact AP.out.far (C := C) (List.Mem.tail _ hq) j hj : q.1 ≠ j))
      have W0L := Lib.hid (show W0.heap.size ≤ b + 1 by have := AP.out.o1; have := AP.out.o2; omega)
      have B0L := Lib.hid (show W0.heap.size ≤ b by have := AP.out.o1; have := AP.out.o2; omega)
      have KA := Lib.hid (blk_below AP.out.below KARG0.out)
      have hbb := AP.out.big
      clear hx hz
      go_wp2
      obtain ⟨w5, hw5⟩ : ∃ W, wr.alloc (.cells #[.int .i64 x.n, .int .i64 x.d, .string x.t] 67) = W := ⟨_, rfl⟩
      have KA := Lib.hid (blk_below (show Below wr.heap.size wr w5 from hw5 ▸ below1 wr _) KA.out)
      have AP := Lib.hid (show AppN W0 w5 r b j (itF (fun i => cnvI kk j (items.getD i noI)) k) sa sn sc names na nc F from hw5 ▸ AP.out.keep (below1 wr _))
      have X1 := Lib.hid (show w5.heap[wr.heap.size]? = some (.cells #[.int .i64 x.n, .int .i64 x.d, .string x.t] 67 (0, 0)) from hw5 ▸ blk_new wr _ rfl)
      rw [hw5]
      clear hw5
      have H := Lib.hid (heldC_cons (heldC_cons AP.out.heldC KA.out) X1.out)
      refine run_region (ops := (opsOf Tryd.f44 8)) (S := fun w' => HeldC W0 w' ([(wr.heap.size, 67, #[.int .i64 x.n, .int .i64 x.d, .string x.t]), (w.heap.size, 31, #[.int .i64 kk, .slice (some ⟨ba, off, none⟩) n ci, .slice ap parts.length cp, .slice an names.length cn, .slice ac cls.length cc, .slice al levels.length cl, .int .i64 code, .int .i64 env]), (r, 31, #[.int .i64 0, .slice none 0 0, .slice none 0 0, .slice none 0 0, .slice none 0 0, .slice none 0 0, .int .i64 0, .int .i64 0]), (b, 31, #[.int .i64 j, .slice sa sn sc, .slice none 0 0, .slice na names.length nc, .slice none 0 0, .slice none 0 0, .int .i64 0, .int .i64 0])])) [(0, true), (1, true), (2, true), (3, true), (4, true), (5, true), (6, false), (7, false), (8, false), (9, true), (10, false)] (by kernel_rfl) (by kernel_rfl) (by kernel_rfl) (by kernel_rfl) (by kernel_rfl) (fun _ _ _ _ _ h => h) (heldC_drew H.out) ?_
      have H := Lib.hid (heldC_drew H.out)
      have AP := Lib.hid (AP.out.keep (below_drew' (Below.refl _ _)))
      refine runC_partV (b := b) (by kernel_rfl) (show opAt (opsOf Tryd.f44 8) 0 = some (some 26, .fieldAddr 31 (.tmp 5) 1, none) from by kernel_rfl) (by kernel_rfl) (by kernel_rfl) (by kernel_rfl) ?_
      refine runC_cell (b := b) (j := 1) (v := .slice sa sn sc) load_its (show opAt (opsOf Tryd.f44 8) 1 = some (some 27, .load 28 (.tmp 26), none) from by kernel_rfl) (by kernel_rfl) (by kernel_rfl) (by kernel_rfl) (List.Mem.tail _ (List.Mem.tail _ (List.Mem.tail _ (List.Mem.head _)))) rfl ?_
      refine runC_itm (b := wr.heap.size) (show opAt (opsOf Tryd.f44 8) 2 = some (some 28, .load 67 (.tmp 7), none) from by kernel_rfl) (by kernel_rfl) (by kernel_rfl) (by kernel_rfl) (List.Mem.head _) ?_
      refine runC_partV (b := w.heap.size) (by kernel_rfl) (show opAt (opsOf Tryd.f44 8) 3 = some (some 29, .fieldAddr 31 (.tmp 2) 0, none) from by kernel_rfl) (by kernel_rfl) (by kernel_rfl) (by kernel_rfl) ?_
      refine runC_cell (b := w.heap.size) (j := 0) (v := .int .i64 kk) load_int (show opAt (opsOf Tryd.f44 8) 4 = some (some 30, .load 3 (.tmp 29), none) from by kernel_rfl) (by kernel_rfl) (by kernel_rfl) (by kernel_rfl) (List.Mem.tail _ (List.Mem.head _)) rfl ?_
      refine run_mov (v := .int .i64 j) (show opAt (opsOf Tryd.f44 8) 5 = some (some 31, .move (.tmp 1), none) from by kernel_rfl) (by kernel_rfl) (by kernel_rfl) (by kernel_rfl) ?_
      refine run_call (args := [.agg #[.int .i64 x.n, .int .i64 x.d, .string x.t], .int .i64 kk, .int .i64 j]) (show opAt (opsOf Tryd.f44 8) 6 = some (some 32, .call { callee := .value (.func 66), args := [(.tmp 28), (.tmp 30), (.tmp 31)].toArray, argTypes := [67, 3, 3].toArray }, none) from by kernel_rfl) (by kernel_rfl) (by kernel_rfl) (by kernel_rfl) (by kernel_rfl) ?_
      refine (CK.out _ (below_then BW0.out H.out.1)).mono ?_
      rintro en rw1 ⟨rfl, hb⟩
      refine ⟨_, rfl, heldC_call H.out hb, ?_⟩
      have H := Lib.hid (heldC_call H.out hb)
      have AP := Lib.hid (AP.out.keep hb)
      clear hb
      refine tail_item2 z (show opAt (opsOf Tryd.f44 8) 7 = some (some 33, .buildSlice 28 1 #[(0, (.tmp 32))], none) from by kernel_rfl) (by kernel_rfl) (by kernel_rfl) (show opAt (opsOf Tryd.f44 8) 8 = some (some 34, .call { callee := .builtin .append, args := [(.tmp 27), (.tmp 33)].toArray, argTypes := [28, 28].toArray }, none) from by kernel_rfl) (by kernel_rfl) (fun _ => by kernel_rfl) (show opAt (opsOf Tryd.f44 8) 9 = some (some 35, .fieldAddr 31 (.tmp 5) 1, none) from by kernel_rfl) (by kernel_rfl) (by kernel_rfl) (fun _ _ => by kernel_rfl) (show opAt (opsOf Tryd.f44 8) 10 = some (none, .store 28 (.tmp 35) (.tmp 34), none) from by kernel_rfl) (by kernel_rfl) (by kernel_rfl) H.out AP.out.row LN.out (Nat.succ_le_of_lt (Array.getElem?_eq_some_iff.1 (heldC_at H.out (List.Mem.tail _ (List.Mem.tail _ (List.Mem.tail _ (List.Mem.head _)))))).1) W0L.out (List.Mem.tail _ (List.Mem.tail _ (List.Mem.tail _ (List.Mem.head _)))) rfl (Nat.lt_succ_self _) B0L.out (fun q hq => FAR.out _ q hq) ?_
      rintro v' w2 ⟨sa, sn, sc, rfl⟩ hK hO hB hZ hR hG
      simp only [putAll, Act.put, List.setIfInBounds_toArray, List.set_cons_zero, List.set_cons_succ]
      have AN := Lib.hid (AP.out.next hK hO hB (hR _ (List.Mem.tail _ (List.Mem.tail _ (List.Mem.head _))) (by have := AP.out.o2; simp only; omega)) (fun g hg => hG g (by have := AP.out.rng g hg; have := AP.out.big; omega) (by have := AP.out.rng g hg; omega) (fun j hj => by have := (AP.out.row.lt j hj).1; have := AP.out.rng g hg; omega)))
      clear hK hO hB hR hG H FAR LN
      go_wp2
      go_roundw
      case rel => exact ⟨k + 1, sa, sn, sc, by omega, by go_num, NX.out ▸ AN.out⟩
      case measure => simp [intOf]; omega
    · obtain rfl : k = n := by omega
      have K1 := Lib.hid AP.out.vec
      have K0 := Lib.hid AP.out.res
      have FN := Lib.hid AP.out.fin
      obtain ⟨k0, k1, k2, k3, k4, k5, k6, k7⟩ := vec8 K1.out
      obtain ⟨z0, z1, z2, z3, z4, z5, z6, z7⟩ := vec8 K0.out
      obtain ⟨f0, f1, f2, f3, f4, f5, f6, f7⟩ := free8 K0.out
      go_wp2
      rw [EV.out]
      exact vec_end rfl rfl rfl K0.out (FN.out.up BW0.out)
end Go.Proofs.YtddebgmjolojeaaDoor

/- A region that draws its order where two operations that change the world may come up at once: the orders as a tree. -/
namespace Go.Proofs.YtddebgmjolojeaaDoor
set_option maxRecDepth 100000
open Go.RowKit
set_option linter.unusedVariables false

/-- An order, or an order behind which either of two operations comes up. -/
inductive Plan where
  | leaf (r : List (Nat × Bool))
  | fork (r : List (Nat × Bool)) (i : Nat) (p : Plan) (j : Nat) (q : Plan)
def Plan.cons (i : Nat) : Plan → Plan
  | .leaf r => .leaf ((i, false) :: r)
  | .fork r j p k q => .fork ((i, false) :: r) j p k q
def Plan.len : Plan → Nat
  | .leaf r => r.length
  | .fork r _ p _ _ => r.length + (p.len + 1)
section
variable {P : Program} {ops : Array Oper} {Q : Exit → Act → World → Prop} {S : World → Prop}
theorem wp_weak {Q' : Exit → Act → World → Prop} {o : Oper} {a : Act} {w : World} {K : Act → World → Prop} (hP : ∀ c a w, Q' (.panic c) a w → Q (.panic c) a w) (hL : LetsOut Q' → LetsOut Q) (hh : o.wp P a w K Q') : o.wp P a w K Q := by
  unfold Oper.wp at *
  generalize (execOp a.eval o).run P w = r at *
  cases r with
  | ok n w' =>
    cases n <;> simp only [Oper.upon] at hh ⊢ <;>
      first
        | exact hh
        | exact Calls.mono hh (fun e w'' he => by cases e <;> first | exact he | exact hP _ _ _ he | exact hL he)
  | halt x w' => cases x <;> simp only [Oper.upon] at hh ⊢ <;> first | exact hP _ _ _ hh | exact hh
theorem wpOp_weak {Q' : Exit → Act → World → Prop} {i : Nat} {a : Act} {w : World} {K : Act → World → Prop} (hP : ∀ c a w, Q' (.panic c) a w → Q (.panic c) a w) (hL : LetsOut Q' → LetsOut Q) (hh : wpOp P ops Q' i K a w) : wpOp P ops Q i K a w := by
  unfold wpOp at *
  split
  · simpa [*] using hh
  · rename_i o ho
    simp only [ho] at hh
    split
    · rename_i hw; simp only [hw, if_true] at hh; exact hh.imp (wp_weak hP hL) (fun h => ⟨h.1, hL h.2⟩)
    · rename_i hw; simp only [hw] at hh; exact hh
/-- What a fork asks at its end, and Q for all other exits. -/
def forkQ (Q : Exit → Act → World → Prop) (F : Act → World → Prop) : Exit → Act → World → Prop := fun x a w => match x with | .normal => F a w | y => Q y a w
def preOK (ops : Array Oper) : List (Nat × Bool) → Array Bool → Bool
  | [], _ => true
  | (i, true) :: r, listed => Region.free .any ops listed i && (Region.ready .any ops listed).contains i && preOK ops r (listed.setIfInBounds i true)
  | (i, false) :: r, listed => (Region.ready .any ops listed == [i]) && preOK ops r (listed.setIfInBounds i true)
def behind : List (Nat × Bool) → Array Bool → Array Bool
  | [], l => l
  | (i, _) :: r, l => behind r (l.setIfInBounds i true)
def planOK (ops : Array Oper) : Plan → Array Bool → Bool
  | .leaf r, l => schedOK ops r l
  | .fork r i p j q, l => preOK ops r l && (Region.ready .any ops (behind r l) == [i, j]) && !lastK ops i && !lastK ops j && Nat.beq p.len q.len && planOK ops p ((behind r l).setIfInBounds i true) && planOK ops q ((behind r l).setIfInBounds j true)
def seqP (P : Program) (ops : Array Oper) (Q : Exit → Act → World → Prop) (S : World → Prop) : Plan → Act → World → Prop
  | .leaf r, a, w => seqH P ops Q S r a w
  | .fork r i p j q, a, w => seqH P ops (forkQ Q fun a' w' => S w' ∧ wpOp P ops Q i (fun b v => (lastK ops i = true ∨ S v) ∧ seqP P ops Q S p b v) a' w' ∧ wpOp P ops Q j (fun b v => (lastK ops j = true ∨ S v) ∧ seqP P ops Q S q b v) a' w') S r a w
theorem pre_nil {r : List (Nat × Bool)} {l : Array Bool} (h : preOK ops r l = true) (hr : Region.ready .any ops l = []) : r = [] := by
  match r, h with
  | [], _ => rfl
  | (i, true) :: r, h => simp [preOK, hr] at h
  | (i, false) :: r, h => simp [preOK, hr] at h
theorem pre_sound {Q' : Exit → Act → World → Prop} (hs : Region.noSelect ops = true) (hQ : ∀ c a d v w, Q (.panic c) (Act.put a (some d) v) w → Q (.panic c) a w) (hQQ : ∀ c a w, Q' (.panic c) a w → Q (.panic c) a w) (hLL : LetsOut Q' → LetsOut Q) (n : Nat) :
    ∀ (r : List (Nat × Bool)) (listed : Array Bool) (a : Act) (w : World), preOK ops r listed = true → (r = [] ∨ S w) → seqH P ops Q' S r a w → (∀ a' w', Q' .normal a' w' → wpAnyL P ops Q S n (behind r listed) a' w') → wpAnyL P ops Q S (r.length + n) listed a w
  | [], listed, a, w, h, _, hq, hn => by
    rw [show ([] : List (Nat × Bool)).length + n = n by simp]
    exact hn a w hq
  | (i, true) :: r, listed, a, w, h, hS, hq, hn => by
    simp only [preOK, Bool.and_eq_true] at h
    obtain ⟨o, v, d, ho, hd, hy, hq⟩ := hq
    have hS := hS.resolve_left (by simp)
    have := pre_sound hs hQ hQQ hLL n r _ _ _ h.2 (.inr hS) hq hn
    rw [show ((i, true) :: r).length + n = (r.length + n) + 1 by simp; omega]
    exact takeL ho hs (fun c a w => by rw [hd]; exact hQ c a _ _ w) _ _ _ _ h.1.1 (by simpa using h.1.2) hy hS (by rw [hd]; exact this)
  | (i, false) :: r, listed, a, w, h, hS, hq, hn => by
    simp only [preOK, Bool.and_eq_true, beq_iff_eq] at h
    rw [show ((i, false) :: r).length + n = (r.length + n) + 1 by simp; omega]
    refine ⟨fun h0 => absurd (h.1.symm.trans h0) (by simp), fun j hj => ?_⟩
    have hji := hj
    rw [h.1] at hji
    obtain rfl : j = i := by simpa using hji
    change wpOp P ops Q' j (fun a' w' => (lastK ops j = true ∨ S w') ∧ seqH P ops Q' S r a' w') a w at hq
    have hq := wpOp_weak hQQ hLL hq
    refine wpOp_mono (fun a' w' ⟨h1, h2⟩ => ⟨h1, pre_sound hs hQ hQQ hLL n r _ _ _ h.2 ?_ h2 hn⟩) hq
    exact h1.imp (fun hl => pre_nil h.2 (lastK_none hl hj)) id
theorem plan_sound (hs : Region.noSelect ops = true) (hQ : ∀ c a d v w, Q (.panic c) (Act.put a (some d) v) w → Q (.panic c) a w) :
    ∀ (p : Plan) (listed : Array Bool) (a : Act) (w : World), planOK ops p listed = true → S w → seqP P ops Q S p a w → wpAnyL P ops Q S p.len listed a w
  | .leaf r, listed, a, w, h, hS, hq => seq_sound hs hQ r listed a w h (.inr hS) hq
  | .fork r i p j q, listed, a, w, h, hS, hq => by
    simp only [planOK, Bool.and_eq_true, beq_iff_eq, Bool.not_eq_true'] at h
    obtain ⟨⟨⟨⟨⟨⟨h1, h2⟩, h3⟩, h4⟩, h5⟩, h6⟩, h7⟩ := h
    have h5 := Nat.eq_of_beq_eq_true h5
    refine pre_sound (Q' := forkQ Q _) hs hQ (fun c a w h => h) (fun h => h) (p.len + 1) r listed a w h1 (.inr hS) hq (fun a' w' hf => ?_)
    obtain ⟨g1, g2, g3⟩ := hf
    refine ⟨fun h0 => absurd (h2.symm.trans h0) (by simp), fun k hk => ?_⟩
    rw [h2] at hk
    simp only [List.mem_cons, List.not_mem_nil, or_false] at hk
    rcases hk with rfl | rfl
    · exact wpOp_mono (fun b v hv => ⟨hv.1, plan_sound hs hQ p _ _ _ h6 (hv.1.resolve_left (by rw [h3]; simp)) hv.2⟩) g2
    · rw [h5]
      exact wpOp_mono (fun b v hv => ⟨hv.1, plan_sound hs hQ q _ _ _ h7 (hv.1.resolve_left (by rw [h4]; simp)) hv.2⟩) g3
/-- RunE over a plan. -/
def RunT (P : Program) (ops : Array Oper) (Q : Exit → Act → World → Prop) (S : World → Prop) : Plan → Act → List (Nat × Value) → World → Prop
  | .leaf r, a, e, w => RunE P ops Q S r a e w
  | .fork r i p j q, a, e, w => RunE P ops (forkQ Q fun a' w' => S w' ∧ wpOp P ops Q i (fun b v => (lastK ops i = true ∨ S v) ∧ seqP P ops Q S p b v) a' w' ∧ wpOp P ops Q j (fun b v => (lastK ops j = true ∨ S v) ∧ seqP P ops Q S q b v) a' w') S r a e w
theorem RunT.out {p : Plan} {a : Act} {e : List (Nat × Value)} {w : World} (h : RunT P ops Q S p a e w) (hk : keysIn a.tmps.size e) : seqP P ops Q S p (putAll a e) w := by
  cases p with
  | leaf r => exact RunE.out h hk
  | fork r i p j q => exact RunE.out h hk
/-- An operation ahead of a plan. -/
theorem cons_wp {i : Nat} {p : Plan} {a : Act} {w : World} (hl : lastK ops i = false) (h : seqP P ops Q S (p.cons i) a w) : wpOp P ops Q i (fun b v => (lastK ops i = true ∨ S v) ∧ seqP P ops Q S p b v) a w := by
  cases p with
  | leaf r => exact h
  | fork r j p k q => exact wpOp_weak (fun c a w h => h) (fun h => h) h
/-- The end of a fork's first part: both ways. -/
theorem run_fork {i j : Nat} {p q : Plan} {a : Act} {e : List (Nat × Value)} {w : World} (hS : S w) (hi : lastK ops i = false) (hj : lastK ops j = false) (h1 : RunT P ops Q S (p.cons i) a e w) (h2 : RunT P ops Q S (q.cons j) a e w) :
    RunE P ops (forkQ Q fun a' w' => S w' ∧ wpOp P ops Q i (fun b v => (lastK ops i = true ∨ S v) ∧ seqP P ops Q S p b v) a' w' ∧ wpOp P ops Q j (fun b v => (lastK ops j = true ∨ S v) ∧ seqP P ops Q S q b v) a' w') S [] a e w :=
  ⟨fun hk => ⟨hS, cons_wp hi (h1.out hk), cons_wp hj (h2.out hk)⟩⟩
theorem run_regionT {id : Nat} {ops' : Array Oper} {a : Act} {w : World} (p : Plan) (hops : ops' = ops) (hm : P.follows .mixedOrders = true) (hs : Region.noSelect ops = true) (hlen : Nat.beq p.len ops.size = true)
    (hsch : planOK ops p (Array.replicate ops.size false) = true) (hQ : ∀ c a d v w, Q (.panic c) (Act.put a (some d) v) w → Q (.panic c) a w) (hS : S w.drew)
    (h : RunT P ops Q S p a [] w.drew) : (Code.region id ops' true).wp P Q a w := by
  subst hops
  refine wp_region_any hm (wpAny_of_L (S := S) _ _ _ _ ?_)
  have hl := Nat.eq_of_beq_eq_true hlen
  show wpAnyL P ops' Q S ops'.size (Array.replicate ops'.size false) a w.drew
  generalize Array.replicate ops'.size false = L at hsch ⊢
  rw [← hl]
  exact plan_sound hs hQ p _ _ _ hsch hS (h.out (fun p hp => by cases hp))
end
/-- A new variable of type Vector, of type Item. -/
theorem new_vec (w : World) : (Instr.alloc 31 true (.tuple #[])).run Tryd.prog w = .ok (.pointer (some ⟨w.heap.size, 0, none⟩)) (w.alloc (.cells #[.int .i64 0, .slice none 0 0, .slice none 0 0, .slice none 0 0, .slice none 0 0, .slice none 0 0, .int .i64 0, .int .i64 0] 31)) := by
  kernel_rfl
theorem new_item (w : World) : (Instr.alloc 67 true (.tuple #[])).run Tryd.prog w = .ok (.pointer (some ⟨w.heap.size, 0, none⟩)) (w.alloc (.cells #[.int .i64 0, .int .i64 0, .string ⟨#[]⟩] 67)) := by
  kernel_rfl
section
variable {P : Program} {ops : Array Oper} {Q : Exit → Act → World → Prop} {S : World → Prop}
variable {r : List (Nat × Bool)} {a : Act} {e : List (Nat × Value)} {w : World} {i d : Nat} {g : Option (Nat × Bool)}
/-- A new variable, wherever it comes up. -/
theorem run_new {t : TypeId} {C : Array Value} (ho : opAt ops i = some (some d, .alloc t, g)) (hd : Nat.blt d a.tmps.size = true) (hw : wantE ops a e g = some true)
    (hn : ∀ v : World, (Instr.alloc t true (.tuple #[])).run P v = .ok (.pointer (some ⟨v.heap.size, 0, none⟩)) (v.alloc (.cells C t)))
    (h : ∀ W n, W = w.alloc (.cells C t) → n = w.heap.size → S W ∧ RunE P ops Q S r a ((d, .pointer (some ⟨n, 0, none⟩)) :: e) W) : RunE P ops Q S ((i, false) :: r) a e w := by
  obtain ⟨hS, hR⟩ := h _ _ rfl rfl
  exact run_eff (op := .alloc t) ho hd hw (fun o h1 => by unfold execOp; rw [h1]; exact run_v (hn w)) hS hR
end
section
variable {P : Program} {ops : Array Oper} {Q : Exit → Act → World → Prop} {S : World → Prop}
variable {r : List (Nat × Bool)} {a : Act} {e : List (Nat × Value)} {w : World} {i d : Nat} {g : Option (Nat × Bool)}
/-- The larger one of two ints. -/
theorem run_max2 {x y : Operand} {ats : Array TypeId} {p q z : Int} (ho : opAt ops i = some (some d, .call { callee := .builtin .max, args := [x, y].toArray, argTypes := ats }, g)) (hd : Nat.blt d a.tmps.size = true)
    (hw : wantE ops a e g = some true) (hx : lookO a e x = .int .i64 p) (hy : lookO a e y = .int .i64 q) (hz : (if q > p then q else p) = z)
    (h : RunE P ops Q S r a ((d, .int .i64 z) :: e) w) : RunE P ops Q S ((i, true) :: r) a e w :=
  run_yield ho hd hw (fun o w' h1 _ => by
    unfold execOp; rw [h1]
    have hx' : [x, y].toArray.map (lookO a e) = #[.int .i64 p, .int .i64 q] := by simp [hx, hy]
    have key : ∀ cs, (builtin .max ats o.type cs ([x, y].toArray.map (lookO a e))).run P w' = .ok (.value (.int .i64 z)) w' := fun cs => by
      rw [hx']
      show (do pure (.value (← Builtin.max_ ats o.type #[.int .i64 p, .int .i64 q])) : Sem Next).run P w' = _
      refine run_v ?_
      rw [run_max_int2, hz]
    exact key #[]) h
end
/-- A vector stored whole into a block that holds one. -/
theorem store_vec8 {w : World} {b : Nat} {z0 z1 z2 z3 z4 z5 z6 z7 c0 c1 c2 c3 c4 c5 c6 c7 : Value} (h : w.heap[b]? = some (.cells #[z0, z1, z2, z3, z4, z5, z6, z7] 31 (0, 0))) (h1 : (#[c0, c1, c2, c3, c4, c5, c6, c7] : Array Value).all (·.oneCell') = true) :
    (Instr.storeAt 31 (.pointer (some ⟨b, 0, none⟩)) (.agg #[c0, c1, c2, c3, c4, c5, c6, c7])).run Tryd.prog w = .ok () (w.setRow b #[c0, c1, c2, c3, c4, c5, c6, c7]) := by
  have e := run_storeVar_row (P := Tryd.prog) w b _ 31 #[z0, z1, z2, z3, z4, z5, z6, z7] #[c0, c1, c2, c3, c4, c5, c6, c7] h infoVec rfl h1
  simp only [Instr.storeAt, Instr.sureAddr, Sem.run_bind, Sem.run_pure, Result.andThen_ok, e]
theorem Own.row {d : Nat} {V : Vec} {y : Value} {lo hi g : Nat} {c : Array Value} {w : World} (h : Own d V y lo hi w) (hg : g < lo) : Own d V y lo hi (w.setRow g c) := by
  obtain ⟨F, q1, q2, q3⟩ := h.out
  exact ⟨F, q1.kept _ _ _ _ (fun b hb => row_old rfl (by have := (q3 b hb).1; omega)), q2, q3⟩
theorem row_size (w : World) (g : Nat) (c : Array Value) : w.heap.size ≤ (w.setRow g c).heap.size := (below_row (Below.refl 0 w) (Nat.zero_le _) c).size
/-- A block that was made in a region. -/
structure NewB (b : Nat) (t : TypeId) (C : Array Value) (w : World) : Prop where
  out : w.heap[b]? = some (.cells C t (0, 0))
theorem NewB.keep {b : Nat} {t : TypeId} {C : Array Value} {w w1 : World} (h : NewB b t C w) (hb : Below w.heap.size w w1) : NewB b t C w1 := ⟨blk_below hb h.out⟩
end Go.Proofs.YtddebgmjolojeaaDoor

/- What a loop that appends items to a vector keeps: all blocks of the world ahead of it but the vector's own. -/
namespace Go.Proofs.YtddebgmjolojeaaDoor
open Go.RowKit
set_option maxRecDepth 100000
set_option linter.unusedVariables false

structure AppK (w w0 wr : World) (b : Nat) (kind : Int) (l : List It) (sa : Option Addr) (sn sc : Nat) (na : Option Addr) (nn nc : Nat) : Prop where
  vec : wr.heap[b]? = some (.cells #[.int .i64 kind, .slice sa sn sc, .slice none 0 0, .slice na nn nc, .slice none 0 0, .slice none 0 0, .int .i64 0, .int .i64 0] 31 (0, 0))
  row : wr.ownsRow w0.heap.size 67 3 (.slice sa sn sc) l.length (itCells l)
  kept : ∀ g, g < w0.heap.size → g ≠ b → wr.heap[g]? = w0.heap[g]?
  size : w0.heap.size ≤ wr.heap.size
  below : Below w.heap.size w wr
  lt : b < w0.heap.size
  ge : w.heap.size ≤ b
theorem AppK.start {w w0 : World} {b : Nat} {kind : Int} {na : Option Addr} {nn nc : Nat} (h : w0.heap[b]? = some (.cells #[.int .i64 kind, .slice none 0 0, .slice none 0 0, .slice na nn nc, .slice none 0 0, .slice none 0 0, .int .i64 0, .int .i64 0] 31 (0, 0))) (hB : Below w.heap.size w w0) (hb : w.heap.size ≤ b) : AppK w w0 w0 b kind [] none 0 0 na nn nc :=
  ⟨h, ⟨rfl, .inl ⟨rfl, rfl⟩⟩, fun _ _ _ => rfl, Nat.le_refl _, hB, (Array.getElem?_eq_some_iff.1 h).1, hb⟩
theorem AppK.keep {w w0 wr w1 : World} {b : Nat} {kind : Int} {l : List It} {sa : Option Addr} {sn sc : Nat} {na : Option Addr} {nn nc : Nat} (h : AppK w w0 wr b kind l sa sn sc na nn nc) (hb : Below wr.heap.size wr w1) : AppK w w0 w1 b kind l sa sn sc na nn nc :=
  ⟨blk_below hb h.vec, ownsRow_below h.row hb, fun g hg hn => (hb.block g (Nat.lt_of_lt_of_le hg h.size)).trans (h.kept g hg hn), Nat.le_trans h.size hb.size, below_then h.below hb, h.lt, h.ge⟩
theorem AppK.blk {w w0 wr : World} {b : Nat} {kind : Int} {l : List It} {sa : Option Addr} {sn sc : Nat} {na : Option Addr} {nn nc : Nat} (h : AppK w w0 wr b kind l sa sn sc na nn nc) {g : Nat} {o : Obj} (hg : w0.heap[g]? = some o) (hn : g ≠ b) : wr.heap[g]? = some o := (h.kept g (Array.getElem?_eq_some_iff.1 hg).1 hn).trans hg
theorem AppK.far {w w0 wr : World} {b : Nat} {kind : Int} {l : List It} {sa : Option Addr} {sn sc : Nat} {na : Option Addr} {nn nc : Nat} (h : AppK w w0 wr b kind l sa sn sc na nn nc) {g j : Nat} (hj : (Value.slice sa sn sc).ownBlock = some j) (hg : g < w0.heap.size ∨ wr.heap.size ≤ g) : g ≠ j := by
  have := h.row.lt j hj
  omega
theorem AppK.next {w w0 wr W : World} {b : Nat} {kind : Int} {l : List It} {z : It} {sa sa' : Option Addr} {sn sc sn' sc' : Nat} {na : Option Addr} {nn nc : Nat} (h : AppK w w0 wr b kind l sa sn sc na nn nc)
    (hK : W.heap[b]? = some (.cells (#[.int .i64 kind, .slice sa sn sc, .slice none 0 0, .slice na nn nc, .slice none 0 0, .slice none 0 0, .int .i64 0, .int .i64 0].setIfInBounds 1 (.slice sa' sn' sc')) 31 (0, 0)))
    (hO : W.ownsRow w0.heap.size 67 3 (.slice sa' sn' sc') (l ++ [z]).length (itCells (l ++ [z]))) (hB : Below w.heap.size w W) (hZ : wr.heap.size ≤ W.heap.size)
    (hG : ∀ g, g < wr.heap.size → g ≠ b → (∀ k, (Value.slice sa sn sc).ownBlock = some k → g ≠ k) → W.heap[g]? = wr.heap[g]?) : AppK w w0 W b kind (l ++ [z]) sa' sn' sc' na nn nc :=
  ⟨hK, hO, fun g hg hn => (hG g (Nat.lt_of_lt_of_le hg h.size) hn (fun k hk => h.far hk (.inl hg))).trans (h.kept g hg hn), Nat.le_trans h.size hZ, hB, h.lt, h.ge⟩
/-- The vector that the loop has made. -/
theorem AppK.own {w w0 wr : World} {b : Nat} {kind : Int} {l : List It} {sa : Option Addr} {sn sc : Nat} {na : Option Addr} {nc : Nat} {names : List ByteArray} {F : List Nat} (h : AppK w w0 wr b kind l sa sn sc na names.length nc)
    (hT : OwnTxs w0 na names F) (hnd : F.Nodup) (hF : ∀ g ∈ F, w.heap.size ≤ g ∧ g < w0.heap.size ∧ g ≠ b) (hc : names.length ≤ nc) : ∃ G, OwnVec wr 1 (mkN kind l names) (.agg #[.int .i64 kind, .slice sa sn sc, .slice none 0 0, .slice na names.length nc, .slice none 0 0, .slice none 0 0, .int .i64 0, .int .i64 0]) G ∧ G.Nodup ∧ ∀ g ∈ G, w.heap.size ≤ g ∧ g < wr.heap.size ∧ (w0.heap.size ≤ g ∨ g ∈ F) := by
  obtain ⟨a, c, Fi, e, ho, hn, hr, hc'⟩ := own_of_its h.row
  obtain ⟨rfl, rfl, rfl⟩ : sa = a ∧ sn = l.length ∧ sc = c := by simpa using e
  have h0 : w.heap.size ≤ w0.heap.size := Nat.le_trans h.ge (Nat.le_of_lt h.lt)
  refine ⟨Fi ++ F, ?_, ?_, ?_⟩
  · show OwnVec wr 1 (.mk kind l [] names [] [] 0 0) _ _
    unfold OwnVec
    exact ⟨sa, sc, none, 0, na, nc, none, 0, none, 0, Fi, [], F, [], [], rfl, by simp, ⟨hc', Nat.le_refl _, hc, Nat.le_refl _, Nat.le_refl _⟩, ho, hT.kept (fun g hg => h.kept g (hF g hg).2.1 (hF g hg).2.2), .inl ⟨rfl, rfl⟩, .inl ⟨rfl, rfl⟩, .inl ⟨rfl, rfl⟩⟩
  · rw [List.nodup_append]
    exact ⟨hn, hnd, fun x hx y hy e => by have := hr x hx; have := hF y hy; omega⟩
  · intro g hg
    have h3 := h.size
    rcases List.mem_append.1 hg with hg | hg
    · have := hr g hg; exact ⟨by omega, by omega, .inl this.1⟩
    · have := hF g hg; exact ⟨by omega, by omega, .inr hg⟩
theorem AppK.fin {w w0 wr : World} {b r : Nat} {kind : Int} {l : List It} {sa : Option Addr} {sn sc : Nat} {na : Option Addr} {nc : Nat} {names : List ByteArray} {F : List Nat} (h : AppK w w0 wr b kind l sa sn sc na names.length nc)
    (hT : OwnTxs w0 na names F) (hnd : F.Nodup) (hF : ∀ g ∈ F, w.heap.size ≤ g ∧ g < w0.heap.size ∧ g ≠ b ∧ g ≠ r) (hc : names.length ≤ nc) (hr : w.heap.size ≤ r ∧ r < w0.heap.size) : ResV 1 (mkN kind l names) w (.returned (.agg #[.int .i64 kind, .slice sa sn sc, .slice none 0 0, .slice na names.length nc, .slice none 0 0, .slice none 0 0, .int .i64 0, .int .i64 0])) (put8 wr r 0 (.int .i64 kind) (.slice sa sn sc) (.slice none 0 0) (.slice na names.length nc) (.slice none 0 0) (.slice none 0 0) (.int .i64 0) (.int .i64 0)) := by
  obtain ⟨G, ho, hn, hg⟩ := h.own hT hnd (fun g hg => ⟨(hF g hg).1, (hF g hg).2.1, (hF g hg).2.2.1⟩) hc
  refine ⟨_, rfl, ⟨G, ho.kept _ _ _ _ (fun g hg' => put8_other ?_), hn, fun g hg' => by rw [put8_size]; have := hg g hg'; omega⟩, put8_below h.below hr.1⟩
  rcases (hg g hg').2.2 with h1 | h1
  · omega
  · exact (hF g h1).2.2.2
/-- Items that lie in blocks of the world ahead of the loop, other than the vector's. -/
theorem ItemsAt.loopK {w0 wr : World} {a : Option Addr} {l : List It} {lo hi b : Nat} (h : ItemsAt lo hi w0 a l) (hb : b < lo ∨ hi ≤ b) (hhi : hi ≤ w0.heap.size) (k : ∀ g, g < w0.heap.size → g ≠ b → wr.heap[g]? = w0.heap[g]?) {i : Nat} (hi' : i < l.length) :
    ∃ ba off, a = some ⟨ba, off, none⟩ ∧ ba < w0.heap.size ∧ wr.cell? ⟨ba, off + i * 3, none⟩ = some (.int .i64 (l.getD i noI).n) ∧ wr.cell? ⟨ba, off + i * 3 + 1, none⟩ = some (.int .i64 (l.getD i noI).d) ∧ wr.cell? ⟨ba, off + i * 3 + 2, none⟩ = some (.string (l.getD i noI).t) := by
  have hk : ItemsAt lo hi wr a l := h.kept (fun g o h1 h2 => by simp only [World.cell?]; rw [k g (by omega) (by omega)])
  obtain ⟨ba, off, e, hlt, c0, c1, c2⟩ := hk.at_ hi'
  exact ⟨ba, off, e, by omega, c0, c1, c2⟩
end Go.Proofs.YtddebgmjolojeaaDoor

/- CountBytes as data; that of the program. -/
namespace Go.Proofs.YtddebgmjolojeaaDoor
open Go.RowKit
set_option maxRecDepth 100000
set_option linter.unusedVariables false

/-- The elements as texts. -/
def txsL (kk : Int) (items : List It) (levels : List ByteArray) : List It := cnvL (plnK kk levels) 3 (plnL levels items)
theorem txsL_len (kk : Int) (items : List It) (levels : List ByteArray) : (txsL kk items levels).length = items.length := by unfold txsL; rw [cnvL_len, plnL_len]
theorem txsL_ok {kk : Int} {items : List It} {levels : List ByteArray} (ok : AtmOk kk items levels) {i : Nat} (hi : i < (txsL kk items levels).length) : ItOk 3 ((txsL kk items levels).getD i noI) := by
  rw [txsL_len] at hi
  exact ok.cnv ok.pk.2.1 (Int.le_refl _) hi
/-- What CountBytes answers. -/
noncomputable def cbV (v : Vec) : Vec := match bB (atmS v = ⟨#[]⟩), v with
  | true, .mk kk items _ names _ levels _ _ => mkN 2 (itF (fun i => bytI ((txsL kk items levels).getD i noI)) (txsL kk items levels).length) names
  | false, _ => noV
theorem cbV_yes {kk : Int} {items : List It} {parts : List Vec} {names cls levels : List ByteArray} {code env : Int} (h : atmS (.mk kk items parts names cls levels code env) = ⟨#[]⟩) : cbV (.mk kk items parts names cls levels code env) = mkN 2 (itF (fun i => bytI ((txsL kk items levels).getD i noI)) (txsL kk items levels).length) names := by unfold cbV; rw [bB_yes h]
theorem cbV_no {v : Vec} (h : ¬ atmS v = ⟨#[]⟩) : cbV v = noV := by unfold cbV; rw [bB_no h]
theorem field_its {w : World} {c0 c2 c3 c4 c5 c6 c7 : Value} {a : Option Addr} {n c : Nat} : (Instr.field 31 (.agg #[c0, .slice a n c, c2, c3, c4, c5, c6, c7]) 1).run Tryd.prog w = .ok (.slice a n c) w := by
  kernel_rfl
set_option maxHeartbeats 4000000 in
theorem implPlainTexts (d : Nat) (kk : Int) (items : List It) (parts : List Vec) (names cls levels : List ByteArray) (code env : Int) (val : Value) (lo hi : Nat) (w : World) (hv : VecAt lo hi w d (.mk kk items parts names cls levels code env) val) (hhi : hi ≤ w.heap.size) (ok : AtmOk kk items levels) (tab : Lib.TabIs Tryd.prog w "internal/strconv.uint64pow10" .u64 Lib.pow10Tab) :
    Calls Tryd.prog 27 #[val] w fun e w' => (∃ a c, e = .returned (.slice a (txsL kk items levels).length c) ∧ ItemsAt w.heap.size w'.heap.size w' a (txsL kk items levels)) ∧ Below w.heap.size w w' := by
  have CP := Lib.hid (fun (W : World) (hb : Below w.heap.size w W) => implPlain d kk items parts names cls levels code env val lo hi W (hv.below hb hhi) (Nat.le_trans hhi hb.size) ok)
  have hpk := ok.pk
  have CC := Lib.hid (fun (W : World) (y : Value) (h : VecAt 0 W.heap.size W 1 (vecOf (plnK kk levels) (plnL levels items)) y) (hb : Below w.heap.size w W) => (by have q := implConv 1 (plnK kk levels) 3 (plnL levels items) [] [] [] [] 0 0 y 0 W.heap.size W h (Nat.le_refl _) hpk.1 hpk.2.1 (Int.le_refl _) (by rw [plnL_len]; exact ok.len) (by simp) (fun i hi => ok.pln (by rwa [plnL_len] at hi)) (tab_below tab hb); exact q : Calls Tryd.prog 44 #[y, .int .i64 3] W (ResV 1 (mkN 3 (txsL kk items levels) []) W)))
  obtain ⟨X, hX⟩ : ∃ X, txsL kk items levels = X := ⟨_, rfl⟩
  rw [hX] at CC ⊢
  obtain ⟨d', ai, ci, ap, cp, an, cn, ac, cc, al, cl, ed, rfl, hI, hN, hC, hL, hP⟩ := vecAt_open hv
  clear hv hI hN hC hL hP ed hX ok hpk tab
  have B0 := Lib.hid (below1 w (.cells #[.int .i64 kk, .slice ai items.length ci, .slice ap parts.length cp, .slice an names.length cn, .slice ac cls.length cc, .slice al levels.length cl, .int .i64 code, .int .i64 env] 31))
  go_enter Tryd.func27, Tryd.ntmps27
  go_wp2_with fail
  with_reducible refine (CP.out _ B0.out).mono ?_
  rintro e w2 ⟨y, rfl, ho, b⟩
  have B2 := Lib.hid (below_then B0.out b)
  have O2 := Lib.hid (ho.vat (Nat.le_refl _))
  clear ho b
  go_wp2_with fail
  with_reducible refine (CC.out _ _ O2.out B2.out).mono ?_
  rintro e w3 ⟨y3, rfl, ho, b⟩
  have hv3 := ho.vatL (Nat.le_refl _) (Nat.le_refl _)
  obtain ⟨d3, bi, di, bp, dp, bn, dn, bc, dc, bl, dl, ed, rfl, hI, _⟩ := vecAt_open (show VecAt w2.heap.size w3.heap.size w3 1 (.mk 3 X [] [] [] [] 0 0) y3 from hv3)
  have HI := Lib.hid (hI.wide B2.out.size (Nat.le_refl _))
  have B3 := Lib.hid (below_then B2.out b)
  clear hv3 ed hI ho b
  have EF := field_its (w := w3) (c0 := .int .i64 3) (a := bi) (n := X.length) (c := di) (c2 := .slice bp 0 dp) (c3 := .slice bn 0 dn) (c4 := .slice bc 0 dc) (c5 := .slice bl 0 dl) (c6 := .int .i64 0) (c7 := .int .i64 0)
  go_wp2
  go_ret
  exact ⟨⟨_, _, rfl, HI.out⟩, B3.out⟩
end Go.Proofs.YtddebgmjolojeaaDoor

/- A region in which several operations that change the world come up at once, in any order: an invariant over what is done, the values that they left, and the world. -/
namespace Go.Proofs.YtddebgmjolojeaaDoor
set_option maxRecDepth 100000
open Go.RowKit
set_option linter.unusedVariables false

/-- The puts of those operations of D (operation, slot) that are done, in D's order. -/
def putsI (D : List (Nat × Nat)) (l : Array Bool) (V : Nat → Value) : List (Nat × Value) :=
  (D.filter fun p => l.getD p.1 false).map fun p => (p.2, V p.2)
def updI (V : Nat → Value) (d : Nat) (v : Value) : Nat → Value := fun k => match Nat.beq d k with | true => v | false => V k
theorem updI_same (V : Nat → Value) (d : Nat) (v : Value) : updI V d v d = v := by simp [updI]
theorem updI_ne (V : Nat → Value) {d k : Nat} (v : Value) (h : d ≠ k) : updI V d v k = V k := by
  unfold updI
  cases hb : Nat.beq d k with
  | true => exact absurd (Nat.eq_of_beq_eq_true hb) h
  | false => rfl
theorem putAll_app (a : Act) : ∀ (x y : List (Nat × Value)), putAll a (x ++ y) = putAll (putAll a y) x
  | [], y => rfl
  | (d, v) :: x, y => by simp [putAll, putAll_app a x y]
theorem put_comm (a : Act) {d k : Nat} (v u : Value) (h : d ≠ k) : (a.put (some d) v).put (some k) u = (a.put (some k) u).put (some d) v := by
  simp only [Act.put]
  rw [Array.setIfInBounds_comm _ _ h]
theorem put_putAll (a : Act) (d : Nat) (v : Value) : ∀ (e : List (Nat × Value)), (∀ p ∈ e, p.1 ≠ d) → (putAll a e).put (some d) v = putAll (a.put (some d) v) e
  | [], _ => rfl
  | (k, u) :: e, h => by
    have h1 := h (k, u) (List.mem_cons_self ..)
    have h2 := put_putAll a d v e (fun p hp => h p (List.mem_cons_of_mem _ hp))
    simp only [putAll]
    rw [put_comm _ _ _ h1, h2]
theorem putsI_cons (p : Nat × Nat) (D : List (Nat × Nat)) (l : Array Bool) (V : Nat → Value) : putsI (p :: D) l V = (if l.getD p.1 false then [(p.2, V p.2)] else []) ++ putsI D l V := by
  unfold putsI
  cases h : l.getD p.1 false with
  | false => rw [List.filter_cons_of_neg (by show ¬ (l.getD p.1 false = true); rw [h]; decide)]; rfl
  | true => rw [List.filter_cons_of_pos (by show l.getD p.1 false = true; exact h)]; rfl
theorem putsI_keys {D : List (Nat × Nat)} {l : Array Bool} {V : Nat → Value} {N : Nat} (h : ∀ p ∈ D, p.2 < N) : keysIn N (putsI D l V) := by
  intro p hp
  unfold putsI at hp
  obtain ⟨q, hq, rfl⟩ := List.mem_map.1 hp
  exact h q (List.mem_filter.1 hq).1
theorem putsI_skip {D : List (Nat × Nat)} {l : Array Bool} {V : Nat → Value} {i d : Nat} {v : Value} (h1 : ∀ p ∈ D, p.1 ≠ i) (h2 : ∀ p ∈ D, p.2 ≠ d) : putsI D (l.setIfInBounds i true) (updI V d v) = putsI D l V := by
  induction D with
  | nil => rfl
  | cons p D ih =>
    rw [putsI_cons, putsI_cons, ih (fun q hq => h1 q (List.mem_cons_of_mem _ hq)) (fun q hq => h2 q (List.mem_cons_of_mem _ hq))]
    have e1 : (l.setIfInBounds i true).getD p.1 false = l.getD p.1 false := by
      simp [Array.getD_eq_getD_getElem?, Array.getElem?_setIfInBounds_ne (Ne.symm (h1 p (List.mem_cons_self ..)))]
    rw [e1, updI_ne V v (Ne.symm (h2 p (List.mem_cons_self ..)))]
/-- Its own put takes its place among the puts. -/
theorem putsI_put (a : Act) {i d : Nat} {v : Value} {l : Array Bool} {V : Nat → Value} (hi : i < l.size) (hl : l.getD i false = false) :
    ∀ (D : List (Nat × Nat)), (D.map (·.1)).Nodup → (D.map (·.2)).Nodup → (i, d) ∈ D → (putAll a (putsI D l V)).put (some d) v = putAll a (putsI D (l.setIfInBounds i true) (updI V d v))
  | [], _, _, h => by cases h
  | p :: D, n1, n2, h => by
    rw [List.map_cons, List.nodup_cons] at n1 n2
    rw [putsI_cons, putsI_cons]
    rcases List.mem_cons.1 h with h | h
    · obtain rfl := h
      have q1 : ∀ q ∈ D, q.1 ≠ i := fun q hq he => n1.1 (by rw [← he]; exact List.mem_map.2 ⟨q, hq, rfl⟩)
      have q2 : ∀ q ∈ D, q.2 ≠ d := fun q hq he => n2.1 (by rw [← he]; exact List.mem_map.2 ⟨q, hq, rfl⟩)
      rw [putsI_skip q1 q2]
      have e1 : (l.setIfInBounds i true).getD i false = true := by simp [Array.getD_eq_getD_getElem?, hi]
      simp [hl, e1, putAll, updI_same]
    · have q1 : p.1 ≠ i := fun he => n1.1 (by rw [he]; exact List.mem_map.2 ⟨_, h, rfl⟩)
      have q2 : p.2 ≠ d := fun he => n2.1 (by rw [he]; exact List.mem_map.2 ⟨_, h, rfl⟩)
      have ih := putsI_put a (v := v) (V := V) hi hl D n1.2 n2.2 h
      have e1 : (l.setIfInBounds i true).getD p.1 false = l.getD p.1 false := by
        simp [Array.getD_eq_getD_getElem?, Array.getElem?_setIfInBounds_ne (Ne.symm q1)]
      rw [e1, updI_ne V v (Ne.symm q2)]
      cases hb : l.getD p.1 false with
      | false => simpa using ih
      | true =>
        show ((putAll a (putsI D l V)).put (some p.2) (V p.2)).put (some d) v = (putAll a (putsI D (l.setIfInBounds i true) (updI V d v))).put (some p.2) (V p.2)
        rw [put_comm _ _ _ q2, ih]
/-- What the slots of D hold. -/
theorem look_done {D : List (Nat × Nat)} {l : Array Bool} {V : Nat → Value} {a : Act} {e : List (Nat × Value)} {i k : Nat} (n2 : (D.map (·.2)).Nodup) (h : (i, k) ∈ D) (hl : l.getD i false = true) : lookAt a (putsI D l V ++ e) k = V k := by
  induction D with
  | nil => cases h
  | cons p D ih =>
    rw [List.map_cons, List.nodup_cons] at n2
    rw [putsI_cons]
    rcases List.mem_cons.1 h with h | h
    · obtain rfl := h
      simp [hl, lookAt]
    · have q2 : p.2 ≠ k := fun he => n2.1 (by rw [he]; exact List.mem_map.2 ⟨_, h, rfl⟩)
      have ih := ih n2.2 h
      cases hb : l.getD p.1 false with
      | false => simpa using ih
      | true =>
        have hne : Nat.beq p.2 k = false := by
          cases hx : Nat.beq p.2 k with
          | true => exact absurd (Nat.eq_of_beq_eq_true hx) q2
          | false => rfl
        show (match Nat.beq p.2 k with | true => V p.2 | false => lookAt a (putsI D l V ++ e) k) = _
        rw [hne]; exact ih
theorem look_other {D : List (Nat × Nat)} {l : Array Bool} {V : Nat → Value} {a : Act} {e : List (Nat × Value)} {k : Nat} (h : D.all (fun p => !Nat.beq p.2 k) = true) : lookAt a (putsI D l V ++ e) k = lookAt a e k := by
  induction D with
  | nil => rfl
  | cons p D ih =>
    rw [List.all_cons, Bool.and_eq_true] at h
    rw [putsI_cons]
    have ih := ih h.2
    cases hb : l.getD p.1 false with
    | false => simpa using ih
    | true =>
      have hne : Nat.beq p.2 k = false := by simpa using h.1
      show (match Nat.beq p.2 k with | true => V p.2 | false => lookAt a (putsI D l V ++ e) k) = _
      rw [hne]; exact ih

section
variable {P : Program} {ops : Array Oper} {Q : Exit → Act → World → Prop} {S : World → Prop}
def sameB (l l' : Array Bool) : Bool := l.toList == l'.toList
theorem sameB_eq {l l' : Array Bool} (h : sameB l l' = true) : l = l' := by
  unfold sameB at h
  exact Array.toList_inj.1 (eq_of_beq h)
/-- From l, whatever comes up is one of D's operations, what it depends on is done, and it leads to one of Ls. -/
def nextOK (ops : Array Oper) (D dep : List (Nat × Nat)) (Ls : List (Array Bool)) (l : Array Bool) : Bool :=
  match Region.ready .any ops l with
  | [] => false
  | R => R.all fun i => (D.any fun p => Nat.beq p.1 i) && !lastK ops i && Nat.blt i l.size && !l.getD i false && (dep.all fun p => !Nat.beq p.1 i || l.getD p.2 false) && Ls.any (sameB (l.setIfInBounds i true))
/-- Whatever order is taken from here: the states come in layers, the last of them is L, and then come the operations of q, in q's order. -/
def anyOK (ops : Array Oper) (D dep : List (Nat × Nat)) (q : List (Nat × Bool)) (L : Array Bool) : List (List (Array Bool)) → List (Array Bool) → Bool
  | [], cur => cur.all fun l => sameB l L && schedOK ops q l
  | Ls :: rest, cur => cur.all (nextOK ops D dep Ls) && anyOK ops D dep q L rest Ls
/-- What one operation of D must do. -/
def StepI (P : Program) (ops : Array Oper) (S : World → Prop) (J : Array Bool → (Nat → Value) → World → Prop) (D dep : List (Nat × Nat)) (a : Act) (e : List (Nat × Value)) (i d : Nat) : Prop :=
  ∀ l V w, J l V w → S w → i < l.size → l.getD i false = false → (∀ k, (i, k) ∈ dep → l.getD k false = true) →
    ∀ Q' : Exit → Act → World → Prop, (∀ v w', S w' → J (l.setIfInBounds i true) (updI V d v) w' → RunE P ops Q' S [] a ((d, v) :: (putsI D l V ++ e)) w') → RunE P ops Q' S [(i, false)] a (putsI D l V ++ e) w
theorem inv_sound {J : Array Bool → (Nat → Value) → World → Prop} {D dep : List (Nat × Nat)} {q : List (Nat × Bool)} {L : Array Bool} {a : Act} {e : List (Nat × Value)} (hs : Region.noSelect ops = true) (hQ : ∀ c a d v w, Q (.panic c) (Act.put a (some d) v) w → Q (.panic c) a w)
    (n1 : (D.map (·.1)).Nodup) (n2 : (D.map (·.2)).Nodup) (hk : ∀ p ∈ D, p.2 < a.tmps.size) (hke : keysIn a.tmps.size e) (hstep : ∀ p ∈ D, StepI P ops S J D dep a e p.1 p.2) (hend : ∀ V w, J L V w → S w → RunE P ops Q S q a (putsI D L V ++ e) w) :
    ∀ (Y : List (List (Array Bool))) (cur : List (Array Bool)) (l : Array Bool) (V : Nat → Value) (w : World), anyOK ops D dep q L Y cur = true → l ∈ cur → J l V w → S w → wpAnyL P ops Q S (Y.length + q.length) l (putAll a (putsI D l V ++ e)) w
  | [], cur, l, V, w, h, hl, hJ, hS => by
    have k0 := List.all_eq_true.1 h l hl
    simp only [Bool.and_eq_true] at k0
    obtain rfl := sameB_eq k0.1
    rw [List.length_nil, Nat.zero_add]
    refine seq_sound hs hQ q _ _ _ k0.2 (.inr hS) ((hend V w hJ hS).out ?_)
    intro p hp
    rcases List.mem_append.1 hp with hp | hp
    · exact putsI_keys hk p hp
    · exact hke p hp
  | Ls :: Y, cur, l, V, w, h, hl, hJ, hS => by
    simp only [anyOK, Bool.and_eq_true] at h
    obtain ⟨h, hrest⟩ := h
    have h := List.all_eq_true.1 h l hl
    rw [show (Ls :: Y).length + q.length = (Y.length + q.length) + 1 by simp only [List.length_cons]; omega]
    have hR : Region.ready .any ops l ≠ [] ∧ ∀ i ∈ Region.ready .any ops l, ((D.any fun p => Nat.beq p.1 i) && !lastK ops i && Nat.blt i l.size && !l.getD i false && (dep.all fun p => !Nat.beq p.1 i || l.getD p.2 false) && Ls.any (sameB (l.setIfInBounds i true))) = true := by
      unfold nextOK at h
      generalize Region.ready .any ops l = R at h ⊢
      cases R with
      | nil => cases h
      | cons i R => exact ⟨by simp, List.all_eq_true.1 h⟩
    refine ⟨fun h0 => absurd h0 hR.1, fun i hi => ?_⟩
    have h := hR.2 i hi
    simp only [Bool.and_eq_true, List.all_eq_true, List.any_eq_true, Bool.not_eq_true'] at h
    obtain ⟨⟨⟨⟨⟨⟨p, hp, hpi⟩, hlast⟩, hsz⟩, hun⟩, hdep⟩, l2, hl2, hn⟩ := h
    have hn := sameB_eq hn
    obtain rfl := Nat.eq_of_beq_eq_true hpi
    have hkk : keysIn a.tmps.size (putsI D l V ++ e) := by
      intro p hp
      rcases List.mem_append.1 hp with hp | hp
      · exact putsI_keys hk p hp
      · exact hke p hp
    have hdep' : ∀ k, (p.1, k) ∈ dep → l.getD k false = true := fun k hk => by
      have := hdep (p.1, k) hk
      simpa using this
    have hst := hstep p hp l V w hJ hS (Nat.le_of_ble_eq_true hsz) hun hdep' (forkQ Q fun a' w' => wpAnyL P ops Q S (Y.length + q.length) (l.setIfInBounds p.1 true) a' w') (fun v w' hS' hJ' => run_done (by
      show wpAnyL P ops Q S (Y.length + q.length) (l.setIfInBounds p.1 true) (putAll a ((p.2, v) :: (putsI D l V ++ e))) w'
      have := inv_sound hs hQ n1 n2 hk hke hstep hend Y Ls (l.setIfInBounds p.1 true) (updI V p.2 v) w' hrest (hn ▸ hl2) hJ' hS'
      rw [putAll_app, ← putsI_put (putAll a e) (Nat.le_of_ble_eq_true hsz) hun D n1 n2 hp, ← putAll_app] at this
      exact this))
    exact wpOp_weak (Q' := forkQ Q fun a' w' => wpAnyL P ops Q S (Y.length + q.length) (l.setIfInBounds p.1 true) a' w') (fun c a w h => h) (fun h => h) (hst.out hkk)
/-- A region: first r (what is ready at once and changes nothing), then D's operations in any order, then q. -/
theorem run_regionI {id : Nat} {ops' : Array Oper} {a : Act} {w : World} (r q : List (Nat × Bool)) (D dep : List (Nat × Nat)) (J : Array Bool → (Nat → Value) → World → Prop) (e : List (Nat × Value)) (V0 : Nat → Value) (Y : List (List (Array Bool))) (hops : ops' = ops) (hm : P.follows .mixedOrders = true) (hs : Region.noSelect ops = true)
    (hlen : Nat.beq (r.length + (Y.length + q.length)) ops.size = true) (hpre : preOK ops r (Array.replicate ops.size false) = true)
    (hany : anyOK ops D dep q (behind (D.map fun p => (p.1, false)) (behind r (Array.replicate ops.size false))) Y [behind r (Array.replicate ops.size false)] = true)
    (hD : (D.map (·.1)).Nodup ∧ (D.map (·.2)).Nodup) (hnone : D.all (fun p => !(behind r (Array.replicate ops.size false)).getD p.1 false) = true) (hk : D.all (fun p => Nat.blt p.2 a.tmps.size) = true) (hke : e.all (fun p => Nat.blt p.1 a.tmps.size) = true)
    (hQ : ∀ c a d v w, Q (.panic c) (Act.put a (some d) v) w → Q (.panic c) a w) (hS : S w.drew)
    (h : ∀ Q' : Exit → Act → World → Prop, RunE P ops Q' S [] a e w.drew → RunE P ops Q' S r a [] w.drew)
    (hJ : J (behind r (Array.replicate ops.size false)) V0 w.drew)
    (hstep : ∀ p ∈ D, StepI P ops S J D dep a e p.1 p.2)
    (hend : ∀ V w, J (behind (D.map fun p => (p.1, false)) (behind r (Array.replicate ops.size false))) V w → S w → RunE P ops Q S q a (putsI D (behind (D.map fun p => (p.1, false)) (behind r (Array.replicate ops.size false))) V ++ e) w) :
    (Code.region id ops' true).wp P Q a w := by
  subst hops
  refine wp_region_any hm (wpAny_of_L (S := S) _ _ _ _ ?_)
  have hl := Nat.eq_of_beq_eq_true hlen
  show wpAnyL P ops' Q S ops'.size (Array.replicate ops'.size false) a w.drew
  generalize Array.replicate ops'.size false = L at *
  rw [← hl]
  have hk' : ∀ p ∈ D, p.2 < a.tmps.size := fun p hp => Nat.le_of_ble_eq_true (List.all_eq_true.1 hk p hp)
  have hke' : keysIn a.tmps.size e := fun p hp => Nat.le_of_ble_eq_true (List.all_eq_true.1 hke p hp)
  have hz : ∀ D' : List (Nat × Nat), D'.all (fun p => !(behind r L).getD p.1 false) = true → putsI D' (behind r L) V0 = [] := by
    intro D'
    induction D' with
    | nil => intro _; rfl
    | cons p D' ih =>
      intro hh
      rw [List.all_cons, Bool.and_eq_true] at hh
      rw [putsI_cons, ih hh.2]
      have : (behind r L).getD p.1 false = false := by simpa using hh.1
      simp [this]
  refine pre_sound (Q' := forkQ Q fun a' w' => a' = putAll a e ∧ w' = w.drew) hs hQ (fun c a w h => h) (fun h => h) (Y.length + q.length) r L a w.drew hpre (.inr hS) ((h _ (run_done ⟨rfl, rfl⟩)).out (fun p hp => by cases hp)) ?_
  rintro a' w' ⟨rfl, rfl⟩
  have := inv_sound (e := e) hs hQ hD.1 hD.2 hk' hke' hstep hend Y [behind r L] (behind r L) V0 w.drew hany (List.mem_singleton.2 rfl) hJ hS
  rw [hz D hnone] at this
  exact this
end
end Go.Proofs.YtddebgmjolojeaaDoor

/- Several slices of the call's own that are made and filled in any order: the invariant for RegI. -/
namespace Go.Proofs.YtddebgmjolojeaaDoor
set_option maxRecDepth 100000
open Go.RowKit
set_option linter.unusedVariables false

/-- A slice literal of no elements. -/
theorem run_buildSlice0 {P : Program} (w : World) (t el : TypeId) (ie : TypeInfo) (hu : P.underlying t = some (.slice el)) (hie : P.info? el = some ie) :
    (Instr.buildSlice t 0 #[]).run P w = .ok (.slice (some ⟨w.heap.size, 0, none⟩) 0 0) (w.alloc (.cells #[] el)) := by
  simp [Instr.buildSlice, run_underlying hu, sizeOf, typeInfo, hie, newRow, Instr.fill]
  congr 2
  exact Array.eq_empty_of_size_eq_zero (by simp)
theorem ownsRow_kept {w w' : World} {base : Nat} {el : TypeId} {size n : Nat} {v : Value} {xs : List Value} (h : w.ownsRow base el size v n xs) (k : ∀ g, v.ownBlock = some g → w'.heap[g]? = w.heap[g]?) : w'.ownsRow base el size v n xs := by
  obtain ⟨hl, h⟩ := h
  refine ⟨hl, h.imp id ?_⟩
  rintro ⟨g, cap, cur, rfl, hB, hg, h⟩
  exact ⟨g, cap, cur, rfl, hB, (k g rfl).trans hg, h⟩
/-- One slice: operation i makes it (slot d), operation i2 appends n elements, xs, to it (slot d2). -/
structure Ch where
  i : Nat
  d : Nat
  i2 : Nat
  d2 : Nat
  el : TypeId
  size : Nat
  n : Nat
  xs : List Value
def Ch.cur (c : Ch) (l : Array Bool) (V : Nat → Value) : Value := match l.getD c.i2 false with
  | true => V c.d2
  | false => match l.getD c.i false with
    | true => V c.d
    | false => .slice none 0 0
def Ch.num (c : Ch) (l : Array Bool) : Nat := match l.getD c.i2 false with | true => c.n | false => 0
def Ch.row (c : Ch) (l : Array Bool) : List Value := match l.getD c.i2 false with | true => c.xs | false => []
/-- Operation i and slot d are none of c's. -/
def Ch.apart (c : Ch) (i d : Nat) : Bool := !Nat.beq c.i i && !Nat.beq c.i2 i && !Nat.beq c.d d && !Nat.beq c.d2 d
def Chs.apart (C : List Ch) : Bool := C.all fun c => C.all fun c' => Nat.beq c.i c'.i || (c.apart c'.i c'.d && c.apart c'.i2 c'.d2)
theorem beq_ne {a b : Nat} (h : Nat.beq a b = false) : a ≠ b := fun e => by subst e; simp at h
theorem getD_set_off {l : Array Bool} {i j : Nat} (h : j ≠ i) : (l.setIfInBounds i true).getD j false = l.getD j false := by
  simp [Array.getD_eq_getD_getElem?, Array.getElem?_setIfInBounds_ne (Ne.symm h)]
theorem getD_set_on {l : Array Bool} {i : Nat} (h : i < l.size) : (l.setIfInBounds i true).getD i false = true := by
  simp [Array.getD_eq_getD_getElem?, h]
theorem Ch.same {c : Ch} {i d : Nat} {l : Array Bool} {V : Nat → Value} {v : Value} (h : c.apart i d = true) : c.cur (l.setIfInBounds i true) (updI V d v) = c.cur l V ∧ c.num (l.setIfInBounds i true) = c.num l ∧ c.row (l.setIfInBounds i true) = c.row l := by
  simp only [Ch.apart, Bool.and_eq_true, Bool.not_eq_true'] at h
  obtain ⟨⟨⟨h1, h2⟩, h3⟩, h4⟩ := h
  unfold Ch.cur Ch.num Ch.row
  rw [getD_set_off (beq_ne h1), getD_set_off (beq_ne h2), updI_ne V v (Ne.symm (beq_ne h3)), updI_ne V v (Ne.symm (beq_ne h4))]
  exact ⟨rfl, rfl, rfl⟩
theorem Ch.off {c : Ch} {i d : Nat} {l : Array Bool} (h : c.apart i d = true) : (l.setIfInBounds i true).getD c.i2 false = l.getD c.i2 false ∧ (l.setIfInBounds i true).getD c.i false = l.getD c.i false := by
  simp only [Ch.apart, Bool.and_eq_true, Bool.not_eq_true'] at h
  obtain ⟨⟨⟨h1, h2⟩, h3⟩, h4⟩ := h
  exact ⟨getD_set_off (beq_ne h2), getD_set_off (beq_ne h1)⟩
/-- Each slice is what its operations made of it; no block belongs to two of them, none to X. -/
structure JCh (base : Nat) (C : List Ch) (X : List Nat) (l : Array Bool) (V : Nat → Value) (w : World) : Prop where
  seq : ∀ c ∈ C, l.getD c.i2 false = true → l.getD c.i false = true
  own : ∀ c ∈ C, w.ownsRow base c.el c.size (c.cur l V) (c.num l) (c.row l)
  two : ∀ c ∈ C, ∀ c' ∈ C, c.i ≠ c'.i → ∀ g, (c.cur l V).ownBlock = some g → (c'.cur l V).ownBlock ≠ some g
  out : ∀ c ∈ C, ∀ g, (c.cur l V).ownBlock = some g → g ∉ X
/-- One of c's operations: its slice is v' now. -/
theorem JCh.step {base : Nat} {C : List Ch} {X : List Nat} {l : Array Bool} {V : Nat → Value} {w w' : World} {c : Ch} {i d : Nat} {v' : Value} (h : JCh base C X l V w) (hc : c ∈ C) (hap : ∀ c' ∈ C, c'.i ≠ c.i → c'.apart i d = true) (hX : ∀ g ∈ X, g < w.heap.size) (hu : ∀ c' ∈ C, c'.i = c.i → c' = c)
    (hseq : (l.setIfInBounds i true).getD c.i2 false = true → (l.setIfInBounds i true).getD c.i false = true) (hcur : c.cur (l.setIfInBounds i true) (updI V d v') = v')
    (hown : w'.ownsRow base c.el c.size v' (c.num (l.setIfInBounds i true)) (c.row (l.setIfInBounds i true)))
    (hold : ∀ g, g < w.heap.size → (c.cur l V).ownBlock ≠ some g → w'.heap[g]? = w.heap[g]?) (hwh : v'.ownBlock = (c.cur l V).ownBlock ∨ v'.ownBlock = some w.heap.size) :
    JCh base C X (l.setIfInBounds i true) (updI V d v') w' := by
  have hb : ∀ c' ∈ C, c'.i ≠ c.i → ∀ g, (c'.cur l V).ownBlock = some g → v'.ownBlock ≠ some g := by
    intro c' hc' hne g hg he
    rcases hwh with e | e
    · exact h.two c' hc' c hc hne g hg (e ▸ he)
    · rw [e] at he
      simp only [Option.some.injEq] at he
      have := ((h.own c' hc').lt g hg).2
      omega
  refine ⟨fun c' hc' => ?_, fun c' hc' => ?_, fun c1 h1 c2 h2 hne g hg => ?_, fun c' hc' g hg => ?_⟩
  · by_cases e : c'.i = c.i
    · obtain rfl := hu c' hc' e
      exact hseq
    · rw [(Ch.off (l := l) (hap c' hc' e)).1, (Ch.off (l := l) (hap c' hc' e)).2]
      exact h.seq c' hc'
  · by_cases e : c'.i = c.i
    · obtain rfl := hu c' hc' e
      rw [hcur]; exact hown
    · obtain ⟨e1, e2, e3⟩ := Ch.same (l := l) (V := V) (v := v') (hap c' hc' e)
      rw [e1, e2, e3]
      exact ownsRow_kept (h.own c' hc') fun g hg => hold g ((h.own c' hc').lt g hg).2 (fun he => h.two c' hc' c hc e g hg he)
  · by_cases e : c1.i = c.i
    · obtain rfl := hu c1 h1 e
      rw [hcur] at hg
      rw [(Ch.same (l := l) (V := V) (v := v') (hap c2 h2 (Ne.symm hne))).1]
      exact fun he => hb c2 h2 (Ne.symm hne) g he hg
    · rw [(Ch.same (l := l) (V := V) (v := v') (hap c1 h1 e)).1] at hg
      by_cases e2 : c2.i = c.i
      · obtain rfl := hu c2 h2 e2
        rw [hcur]; exact hb c1 h1 e g hg
      · rw [(Ch.same (l := l) (V := V) (v := v') (hap c2 h2 e2)).1]
        exact h.two c1 h1 c2 h2 hne g hg
  · by_cases e : c'.i = c.i
    · obtain rfl := hu c' hc' e
      rw [hcur] at hg
      intro hx
      rcases hwh with e1 | e1
      · exact h.out c' hc' g (e1 ▸ hg) hx
      · rw [e1] at hg
        simp only [Option.some.injEq] at hg
        have := hX g hx
        omega
    · rw [(Ch.same (l := l) (V := V) (v := v') (hap c' hc' e)).1] at hg
      exact h.out c' hc' g hg
/-- Another operation, which leaves all blocks alone and makes the blocks X' (all new, or X's). -/
theorem JCh.other {base : Nat} {C : List Ch} {X X' : List Nat} {l : Array Bool} {V : Nat → Value} {w w' : World} {i d : Nat} {v' : Value} (h : JCh base C X l V w) (hap : ∀ c' ∈ C, c'.apart i d = true) (hb : ∀ g, g < w.heap.size → w'.heap[g]? = w.heap[g]?) (hX : ∀ g ∈ X', w.heap.size ≤ g) :
    JCh base C X' (l.setIfInBounds i true) (updI V d v') w' := by
  refine ⟨fun c' hc' => ?_, fun c' hc' => ?_, fun c1 h1 c2 h2 hne g hg => ?_, fun c' hc' g hg hx => ?_⟩
  · rw [(Ch.off (l := l) (hap c' hc')).1, (Ch.off (l := l) (hap c' hc')).2]
    exact h.seq c' hc'
  · obtain ⟨e1, e2, e3⟩ := Ch.same (l := l) (V := V) (v := v') (hap c' hc')
    rw [e1, e2, e3]
    exact ownsRow_kept (h.own c' hc') fun g hg => hb g ((h.own c' hc').lt g hg).2
  · rw [(Ch.same (l := l) (V := V) (v := v') (hap c1 h1)).1] at hg
    rw [(Ch.same (l := l) (V := V) (v := v') (hap c2 h2)).1]
    exact h.two c1 h1 c2 h2 hne g hg
  · rw [(Ch.same (l := l) (V := V) (v := v') (hap c' hc')).1] at hg
    have := ((h.own c' hc').lt g hg).2
    have := hX g hx
    omega
/-- The invariant: the slices of C, the blocks X of all else, and T. -/
def JJ (base : Nat) (C : List Ch) (T : List Nat → Array Bool → (Nat → Value) → World → Prop) (l : Array Bool) (V : Nat → Value) (w : World) : Prop := ∃ X, JCh base C X l V w ∧ (∀ g ∈ X, g < w.heap.size) ∧ base ≤ w.heap.size ∧ T X l V w
/-- T keeps through the operations of C. -/
structure KeepT (C : List Ch) (T : List Nat → Array Bool → (Nat → Value) → World → Prop) : Prop where
  out : ∀ X l V w w' i d v', (∃ c ∈ C, (i = c.i ∧ d = c.d) ∨ (i = c.i2 ∧ d = c.d2)) → T X l V w → (∀ g ∈ X, w'.heap[g]? = w.heap[g]?) → w.heap.size ≤ w'.heap.size → T X (l.setIfInBounds i true) (updI V d v') w'
section
variable {P : Program} {ops : Array Oper} {S : World → Prop} {D dep : List (Nat × Nat)} {a : Act} {e : List (Nat × Value)} {base : Nat} {C : List Ch} {T : List Nat → Array Bool → (Nat → Value) → World → Prop}
structure ChsOK (C : List Ch) : Prop where
  ap : ∀ c ∈ C, ∀ c' ∈ C, c'.i ≠ c.i → c'.apart c.i c.d = true ∧ c'.apart c.i2 c.d2 = true
  eq : ∀ c ∈ C, ∀ c' ∈ C, c'.i = c.i → c' = c
  ne : ∀ c ∈ C, c.i ≠ c.i2 ∧ c.d ≠ c.d2
/-- A slice is made. -/
theorem stepMake {t : TypeId} {ie : TypeInfo} {c : Ch} (hC : ChsOK C) (hc : c ∈ C) (hT : KeepT C T) (ho : opAt ops c.i = some (some c.d, .buildSlice t 0 #[], none)) (hd : Nat.blt c.d a.tmps.size = true) (hu : P.underlying t = some (.slice c.el)) (hie : P.info? c.el = some ie)
    (hS : ∀ w, base ≤ w.heap.size → S w → S (w.alloc (.cells #[] c.el))) : StepI P ops S (JJ base C T) D dep a e c.i c.d := by
  intro l V w hJ hs hsz hun _ Q' h
  obtain ⟨X, hj, hX, hb, ht⟩ := hJ
  have h2 : l.getD c.i2 false = false := by
    cases hh : l.getD c.i2 false with
    | false => rfl
    | true => rw [hj.seq c hc hh] at hun; cases hun
  have hcur : c.cur l V = .slice none 0 0 := by unfold Ch.cur; rw [h2, hun]
  have hoff : (l.setIfInBounds c.i true).getD c.i2 false = false := by rw [getD_set_off (Ne.symm (hC.ne c hc).1)]; exact h2
  have hon : (l.setIfInBounds c.i true).getD c.i false = true := getD_set_on hsz
  have hold : ∀ g, g < w.heap.size → (w.alloc (.cells #[] c.el)).heap[g]? = w.heap[g]? := fun g hg => (below1 w _).block g hg
  refine run_eff (op := .buildSlice t 0 #[]) ho hd rfl (fun o h1 => by
    unfold execOp
    have hb := run_buildSlice0 (P := P) w t c.el ie hu hie
    simp only [h1, List.map_toArray, List.map_nil, Sem.run_bind, hb, Result.andThen_ok]
    rfl) (hS w hb hs) (h _ _ (hS w hb hs) ⟨X, ?_, fun g hg => ?_, ?_, ?_⟩)
  · refine hj.step hc (fun c' hc' hne => (hC.ap c hc c' hc' hne).1) hX (hC.eq c hc) (fun hh => by rw [hoff] at hh; cases hh) ?_ ?_ (fun g hg _ => hold g hg) (.inr rfl)
    · unfold Ch.cur; rw [hoff, hon]; exact updI_same ..
    · unfold Ch.num Ch.row; rw [hoff]
      exact ⟨by simp, .inr ⟨w.heap.size, 0, #[], rfl, hb, blk_new w _ rfl, Nat.le_refl _, Nat.zero_le _, by simp, by simp⟩⟩
  · have := hX g hg; have := (below1 w (.cells #[] c.el)).size; omega
  · exact Nat.le_trans hb (below1 w (.cells #[] c.el)).size
  · exact hT.out X l V w _ c.i c.d _ ⟨c, hc, .inl ⟨rfl, rfl⟩⟩ ht (fun g hg => hold g (hX g hg)) (below1 w (.cells #[] c.el)).size
end
/-- Nothing is appended. -/
theorem run_app0W {P : Program} {w : World} {t el ty : TypeId} {ie : TypeInfo} {v0 : Value} (hu : P.underlying t = some (.slice el)) (hie : P.info? el = some ie) (hv : v0 = .slice none 0 0 ∨ ∃ g k, v0 = .slice (some ⟨g, 0, none⟩) 0 k) (ad : Option Addr) (c : Nat) :
    (Builtin.append_ #[t, t] ty #[v0, .slice ad 0 c]).run P w = .ok v0 w := by
  rcases ad with _ | ad <;> rcases hv with rfl | ⟨g, k, rfl⟩ <;> simp [Builtin.append_, run_underlying hu, sizeOf, typeInfo, hie, Builtin.lenOf, Builtin.firstCells, loadCells, loadCellsFrom, storeCells]
section
variable {P : Program} {ops : Array Oper} {Q : Exit → Act → World → Prop} {S : World → Prop}
variable {r : List (Nat × Bool)} {a : Act} {e : List (Nat × Value)} {w : World} {i d : Nat} {g : Option (Nat × Bool)} {v : Value}
/-- An append onto a row of the call's own, and where the new row lies. -/
theorem run_appW {t el : TypeId} {x y : Operand} {v0 : Value} (ho : opAt ops i = some (some d, .call { callee := .builtin .append, args := [x, y].toArray, argTypes := [t, t].toArray }, g)) (hd : Nat.blt d a.tmps.size = true) (hw : wantE ops a e g = some true)
    (hx : lookO a e x = v0) (ad : Option Addr) (m c : Nat) (hy : lookO a e y = .slice ad m c)
    (base : Nat) (ie : TypeInfo) (z : Value) (size bytes : Nat) (ht : P.underlying t = some (.slice el)) (hi : P.info? el = some ie) (hz : ie.zero = some z) (hsize : ie.size = size) (hby : ie.bytes = bytes) (hzs : z.cells.size = size) (hsz : 0 < size)
    (hown : w.ownsRow base el size v0 0 []) (news : List Value) (hl : news.length = m * size) (hnews : 0 < m → ∃ b : Addr, ad = some b ∧ ∀ j u, news[j]? = some u → w.cell? (b.add j) = some u) (h1 : ∀ u ∈ news, u.oneCell' = true)
    (h63 : m ≤ maxLen) (hbytes : m * bytes ≤ 140737488355328) (hbase : base ≤ w.heap.size)
    (h : ∀ v' w', w'.ownsRow base el size v' m news → w.grownBy w' v0.ownBlock → (v'.ownBlock = v0.ownBlock ∨ v'.ownBlock = some w.heap.size) → S w' ∧ RunE P ops Q S r a ((d, v') :: e) w') : RunE P ops Q S ((i, false) :: r) a e w := by
  refine ⟨fun hk => ?_⟩
  obtain ⟨o, hi', k1, k2, k3⟩ := opAt_spec ho
  show wpOp P ops Q i (fun a' w' => (lastK ops i = true ∨ S w') ∧ seqH P ops Q S r a' w') (putAll a e) w
  unfold wpOp
  simp only [hi', if_pos (wantE_spec hk (by rw [k3]; exact hw))]
  left
  unfold Oper.wp
  rw [eval_putAll a e hk]
  by_cases hm : 0 < m
  · obtain ⟨b, rfl, hn2⟩ := hnews hm
    obtain ⟨v', w', hr, h2, h3, _, h4⟩ := run_append_own_at (P := P) w base t o.type el ie z size bytes ht hi hz hsize hby hzs hsz v0 0 [] hown b m c news hl hn2 h1 (by omega) (by rw [Nat.zero_add]; exact hbytes) hbase
    obtain ⟨hS, hR⟩ := h v' w' (by simpa using h2) h3 h4
    unfold execOp
    simp only [k2, resolve, invoke, builtin, Sem.run_bind, Sem.run_pure, Result.andThen_ok, List.map_toArray, List.map_cons, List.map_nil, hx, hy, hr]
    simp only [Oper.upon]
    rw [k1]
    exact ⟨.inr hS, hR.out (keysIn_cons hd hk)⟩
  · obtain rfl : m = 0 := by omega
    obtain rfl : news = [] := List.eq_nil_of_length_eq_zero (by simpa using hl)
    have hr := run_app0W (P := P) (w := w) (ty := o.type) (v0 := v0) ht hi (by
      obtain ⟨_, ⟨e, _⟩ | ⟨g, k, _, e, _⟩⟩ := hown
      · exact .inl e
      · exact .inr ⟨g, k, e⟩) ad c
    obtain ⟨hS, hR⟩ := h v0 w hown ⟨rfl, rfl, rfl, Nat.le_refl _, fun _ _ _ => rfl⟩ (.inl rfl)
    unfold execOp
    simp only [k2, resolve, invoke, builtin, Sem.run_bind, Sem.run_pure, Result.andThen_ok, List.map_toArray, List.map_cons, List.map_nil, hx, hy, hr]
    simp only [Oper.upon]
    rw [k1]
    exact ⟨.inr hS, hR.out (keysIn_cons hd hk)⟩
end
section
variable {P : Program} {ops : Array Oper} {S : World → Prop} {D dep : List (Nat × Nat)} {a : Act} {e : List (Nat × Value)} {base : Nat} {C : List Ch} {T : List Nat → Array Bool → (Nat → Value) → World → Prop}
/-- Its elements are appended to a slice. -/
theorem stepFill {t : TypeId} {ie : TypeInfo} {z : Value} {bytes : Nat} {c : Ch} {y : Nat} (hD : (D.map (·.2)).Nodup) (hcD : (c.i, c.d) ∈ D) (hy : D.all (fun p => !Nat.beq p.2 y) = true) (hdep : (c.i2, c.i) ∈ dep) (hC : ChsOK C) (hc : c ∈ C) (hT : KeepT C T)
    (ho : opAt ops c.i2 = some (some c.d2, .call { callee := .builtin .append, args := [.tmp c.d, .tmp y].toArray, argTypes := [t, t].toArray }, none)) (hd : Nat.blt c.d2 a.tmps.size = true) (hu : P.underlying t = some (.slice c.el)) (hie : P.info? c.el = some ie) (hz : ie.zero = some z) (hsize : ie.size = c.size) (hby : ie.bytes = bytes) (hzs : z.cells.size = c.size) (hsz : 0 < c.size)
    (sa : Option Addr) (cap : Nat) (hsrc : lookAt a e y = .slice sa c.n cap) (hxl : c.xs.length = c.n * c.size)
    (hnews : ∀ w, S w → 0 < c.n → ∃ ad : Addr, sa = some ad ∧ ∀ j u, c.xs[j]? = some u → w.cell? (ad.add j) = some u) (h1 : ∀ u ∈ c.xs, u.oneCell' = true) (h63 : c.n ≤ maxLen) (hbytes : c.n * bytes ≤ 140737488355328)
    (hS : ∀ w w' row, base ≤ w.heap.size → S w → (∀ k, row = some k → base ≤ k) → w.grownBy w' row → S w') : StepI P ops S (JJ base C T) D dep a e c.i2 c.d2 := by
  intro l V w hJ hs hlt hun hde Q' h
  obtain ⟨X, hj, hX, hb, ht⟩ := hJ
  have h1' := hde _ hdep
  have hcur : c.cur l V = V c.d := by unfold Ch.cur; rw [hun, h1']
  have hown := hj.own c hc
  have hnum : c.num l = 0 := by unfold Ch.num; rw [hun]
  have hrow : c.row l = [] := by unfold Ch.row; rw [hun]
  rw [hcur, hnum, hrow] at hown
  have hon : (l.setIfInBounds c.i2 true).getD c.i2 false = true := getD_set_on hlt
  refine run_appW (el := c.el) (v0 := V c.d) ho hd rfl (by show lookAt a (putsI D l V ++ e) c.d = _; exact look_done hD hcD h1') sa c.n cap (by show lookAt a (putsI D l V ++ e) y = _; rw [look_other hy]; exact hsrc) base ie z c.size bytes hu hie hz hsize hby hzs hsz hown c.xs hxl (hnews w hs) h1 h63 hbytes hb (fun v' w' h2 h3 h4 => ?_)
  have hS' := hS w w' _ hb hs (fun k hk => (hown.lt k hk).1) h3
  have hold : ∀ g, g < w.heap.size → (V c.d).ownBlock ≠ some g → w'.heap[g]? = w.heap[g]? := fun g hg hne => h3.block g hg (Ne.symm hne)
  refine ⟨hS', h _ _ hS' ⟨X, ?_, fun g hg => ?_, ?_, ?_⟩⟩
  · refine hj.step hc (fun c' hc' hne => (hC.ap c hc c' hc' hne).2) hX (hC.eq c hc) (fun _ => by rw [getD_set_off (hC.ne c hc).1]; exact h1') ?_ ?_ (by rw [hcur]; exact hold) (by rw [hcur]; exact h4)
    · unfold Ch.cur; rw [hon]; exact updI_same ..
    · unfold Ch.num Ch.row; rw [hon]; exact h2
  · have := hX g hg; have := h3.size; omega
  · exact Nat.le_trans hb h3.size
  · exact hT.out X l V w _ c.i2 c.d2 _ ⟨c, hc, .inr ⟨rfl, rfl⟩⟩ ht (fun g hg => hold g (hX g hg) (fun he => hj.out c hc g (by rw [hcur]; exact he) hg)) h3.size
end
end Go.Proofs.YtddebgmjolojeaaDoor

/- The reference's copy of a vector: the orders of its region. -/
namespace Go.Proofs.YtddebgmjolojeaaDoor
set_option maxRecDepth 100000
open Go.RowKit
set_option linter.unusedVariables false
noncomputable def cpyOps : Array Oper := opsOf Tryd.f62 1
def cpyR : List (Nat × Bool) := [(0, true), (1, true), (3, true), (4, true), (6, true), (7, true), (10, true), (11, true), (14, true), (15, true), (18, true), (19, true), (21, true), (22, true), (23, true), (24, true)]
def cpyD : List (Nat × Nat) := [(2, 5), (5, 8), (8, 11), (9, 12), (12, 15), (13, 16), (16, 19), (17, 20), (20, 23)]
def cpyDep : List (Nat × Nat) := [(5, 2), (12, 9), (16, 13), (20, 17)]
def cpyL0 : Array Bool := behind cpyR (Array.replicate 27 false)
def cpyL1 : Array Bool := behind (cpyD.map fun p => (p.1, false)) cpyL0
def cpyY : List (List (Array Bool)) := [[#[true, true, true, true, true, false, true, true, false, false, true, true, false, false, true, true, false, false, true, true, false, true, true, true, true, false, false], #[true, true, false, true, true, false, true, true, false, true, true, true, false, false, true, true, false, false, true, true, false, true, true, true, true, false, false], #[true, true, false, true, true, false, true, true, false, false, true, true, false, true, true, true, false, false, true, true, false, true, true, true, true, false, false], #[true, true, false, true, true, false, true, true, false, false, true, true, false, false, true, true, false, true, true, true, false, true, true, true, true, false, false]],
  [#[true, true, true, true, true, false, true, true, false, true, true, true, false, false, true, true, false, false, true, true, false, true, true, true, true, false, false], #[true, true, true, true, true, false, true, true, false, false, true, true, false, true, true, true, false, false, true, true, false, true, true, true, true, false, false], #[true, true, true, true, true, false, true, true, false, false, true, true, false, false, true, true, false, true, true, true, false, true, true, true, true, false, false], #[true, true, true, true, true, true, true, true, false, false, true, true, false, false, true, true, false, false, true, true, false, true, true, true, true, false, false], #[true, true, false, true, true, false, true, true, false, true, true, true, false, true, true, true, false, false, true, true, false, true, true, true, true, false, false], #[true, true, false, true, true, false, true, true, false, true, true, true, false, false, true, true, false, true, true, true, false, true, true, true, true, false, false], #[true, true, false, true, true, false, true, true, false, false, true, true, false, true, true, true, false, true, true, true, false, true, true, true, true, false, false]],
  [#[true, true, true, true, true, false, true, true, false, true, true, true, false, true, true, true, false, false, true, true, false, true, true, true, true, false, false], #[true, true, true, true, true, false, true, true, false, true, true, true, false, false, true, true, false, true, true, true, false, true, true, true, true, false, false], #[true, true, true, true, true, true, true, true, false, true, true, true, false, false, true, true, false, false, true, true, false, true, true, true, true, false, false], #[true, true, true, true, true, false, true, true, false, false, true, true, false, true, true, true, false, true, true, true, false, true, true, true, true, false, false], #[true, true, true, true, true, true, true, true, false, false, true, true, false, true, true, true, false, false, true, true, false, true, true, true, true, false, false], #[true, true, true, true, true, true, true, true, false, false, true, true, false, false, true, true, false, true, true, true, false, true, true, true, true, false, false], #[true, true, true, true, true, true, true, true, true, false, true, true, false, false, true, true, false, false, true, true, false, true, true, true, true, false, false], #[true, true, false, true, true, false, true, true, false, true, true, true, false, true, true, true, false, true, true, true, false, true, true, true, true, false, false]],
  [#[true, true, true, true, true, false, true, true, false, true, true, true, false, true, true, true, false, true, true, true, false, true, true, true, true, false, false], #[true, true, true, true, true, true, true, true, false, true, true, true, false, true, true, true, false, false, true, true, false, true, true, true, true, false, false], #[true, true, true, true, true, true, true, true, false, true, true, true, false, false, true, true, false, true, true, true, false, true, true, true, true, false, false], #[true, true, true, true, true, true, true, true, true, true, true, true, false, false, true, true, false, false, true, true, false, true, true, true, true, false, false], #[true, true, true, true, true, true, true, true, false, false, true, true, false, true, true, true, false, true, true, true, false, true, true, true, true, false, false], #[true, true, true, true, true, true, true, true, true, false, true, true, false, true, true, true, false, false, true, true, false, true, true, true, true, false, false], #[true, true, true, true, true, true, true, true, true, false, true, true, false, false, true, true, false, true, true, true, false, true, true, true, true, false, false]],
  [#[true, true, true, true, true, true, true, true, false, true, true, true, false, true, true, true, false, true, true, true, false, true, true, true, true, false, false], #[true, true, true, true, true, true, true, true, true, true, true, true, false, true, true, true, false, false, true, true, false, true, true, true, true, false, false], #[true, true, true, true, true, true, true, true, true, true, true, true, false, false, true, true, false, true, true, true, false, true, true, true, true, false, false], #[true, true, true, true, true, true, true, true, true, true, true, true, true, false, true, true, false, false, true, true, false, true, true, true, true, false, false], #[true, true, true, true, true, true, true, true, true, false, true, true, false, true, true, true, false, true, true, true, false, true, true, true, true, false, false]],
  [#[true, true, true, true, true, true, true, true, true, true, true, true, false, true, true, true, false, true, true, true, false, true, true, true, true, false, false], #[true, true, true, true, true, true, true, true, true, true, true, true, true, true, true, true, false, false, true, true, false, true, true, true, true, false, false], #[true, true, true, true, true, true, true, true, true, true, true, true, true, false, true, true, false, true, true, true, false, true, true, true, true, false, false]],
  [#[true, true, true, true, true, true, true, true, true, true, true, true, true, true, true, true, false, true, true, true, false, true, true, true, true, false, false], #[true, true, true, true, true, true, true, true, true, true, true, true, true, true, true, true, true, false, true, true, false, true, true, true, true, false, false]],
  [#[true, true, true, true, true, true, true, true, true, true, true, true, true, true, true, true, true, true, true, true, false, true, true, true, true, false, false]],
  [#[true, true, true, true, true, true, true, true, true, true, true, true, true, true, true, true, true, true, true, true, true, true, true, true, true, false, false]]]
theorem cpySize : cpyOps.size = 27 := by kernel_rfl
theorem cpyPre : preOK cpyOps cpyR (Array.replicate 27 false) = true := by kernel_rfl
theorem cpyAny : anyOK cpyOps cpyD cpyDep [(25, true), (26, false)] cpyL1 cpyY [cpyL0] = true := by kernel_rfl
end Go.Proofs.YtddebgmjolojeaaDoor

/- The reference's copy of a vector: its parts' copies given. -/
namespace Go.Proofs.YtddebgmjolojeaaDoor
set_option maxRecDepth 100000
open Go.RowKit
set_option linter.unusedVariables false
def cpyC (items : List It) (names cls levels : List ByteArray) : List Ch := [⟨2, 5, 5, 8, 67, 3, items.length, itCells items⟩, ⟨9, 12, 12, 15, 9, 1, names.length, names.map Value.string⟩, ⟨13, 16, 16, 19, 9, 1, cls.length, cls.map Value.string⟩, ⟨17, 20, 20, 23, 9, 1, levels.length, levels.map Value.string⟩]
theorem cpyC_ok (items : List It) (names cls levels : List ByteArray) : ChsOK (cpyC items names cls levels) := by
  refine ⟨fun c hc c' hc' h => ?_, fun c hc c' hc' h => ?_, fun c hc => ?_⟩
  · simp only [cpyC, List.mem_cons, List.not_mem_nil, or_false] at hc hc'
    rcases hc with rfl | rfl | rfl | rfl <;> rcases hc' with rfl | rfl | rfl | rfl <;> first | exact ⟨rfl, rfl⟩ | exact absurd rfl h
  · simp only [cpyC, List.mem_cons, List.not_mem_nil, or_false] at hc hc'
    rcases hc with rfl | rfl | rfl | rfl <;> rcases hc' with rfl | rfl | rfl | rfl <;> first | rfl | (simp at h)
  · simp only [cpyC, List.mem_cons, List.not_mem_nil, or_false] at hc
    rcases hc with rfl | rfl | rfl | rfl <;> exact ⟨by simp, by simp⟩
/-- The copies of the parts, once they are made. -/
def cpyT (base d : Nat) (parts : List Vec) (X : List Nat) (l : Array Bool) (V : Nat → Value) (w : World) : Prop := (l.getD 8 false = false → X = []) ∧ (l.getD 8 false = true → OwnParts w d (V 11) parts X ∧ X.Nodup ∧ ∀ g ∈ X, base ≤ g)
theorem cpyT_keep (base d : Nat) (parts : List Vec) (items : List It) (names cls levels : List ByteArray) : KeepT (cpyC items names cls levels) (cpyT base d parts) := by
  refine ⟨fun X l V w w' i d' v' h ht hk hs => ?_⟩
  obtain ⟨c, hc, h⟩ := h
  have hi : (8 ≠ i ∧ d' ≠ 11) := by
    simp only [cpyC, List.mem_cons, List.not_mem_nil, or_false] at hc
    rcases hc with rfl | rfl | rfl | rfl <;> rcases h with ⟨rfl, rfl⟩ | ⟨rfl, rfl⟩ <;> exact ⟨by simp, by simp⟩
  unfold cpyT at ht ⊢
  rw [getD_set_off hi.1, updI_ne V v' hi.2]
  exact ⟨ht.1, fun h => ⟨(ht.2 h).1.kept hk, (ht.2 h).2⟩⟩
theorem OwnIts.blk {w : World} {a : Option Addr} {l : List It} {F : List Nat} (h : OwnIts w a l F) (n c : Nat) : ∀ b ∈ F, (Value.slice a n c).ownBlock = some b := by
  intro b hb
  rcases h with ⟨_, rfl⟩ | ⟨b', C, rfl, rfl, _⟩
  · cases hb
  · obtain rfl := List.mem_singleton.1 hb; rfl
theorem OwnTxs.blk {w : World} {a : Option Addr} {l : List ByteArray} {F : List Nat} (h : OwnTxs w a l F) (n c : Nat) : ∀ b ∈ F, (Value.slice a n c).ownBlock = some b := by
  intro b hb
  rcases h with ⟨_, rfl⟩ | ⟨b', C, rfl, rfl, _⟩
  · cases hb
  · obtain rfl := List.mem_singleton.1 hb; rfl
theorem txs_of_row {w : World} {B : Nat} {v : Value} {l : List ByteArray} (h : w.ownsRow B 9 1 v l.length (l.map Value.string)) : ∃ a c F, v = .slice a l.length c ∧ OwnTxs w a l F ∧ F.Nodup ∧ (∀ b ∈ F, B ≤ b ∧ b < w.heap.size) ∧ l.length ≤ c := by
  by_cases hpos : 0 < l.length
  · obtain ⟨g, c, rfl, ho, h1, h2, h3⟩ := own_of_row hpos h
    exact ⟨_, c, [g], rfl, ho, by simp, fun b hb => by obtain rfl := List.mem_singleton.1 hb; exact ⟨h1, h2⟩, h3⟩
  · obtain rfl : l = [] := List.eq_nil_of_length_eq_zero (by omega)
    obtain ⟨_, ⟨e, _⟩ | ⟨g, k, _, e, _⟩⟩ := h
    · exact ⟨none, 0, [], e, .inl ⟨rfl, rfl⟩, List.nodup_nil, (fun _ h => by cases h), Nat.le_refl _⟩
    · exact ⟨_, k, [], e, .inl ⟨rfl, rfl⟩, List.nodup_nil, (fun _ h => by cases h), Nat.zero_le _⟩
theorem build_v8 {w : World} {k c e : Int} {a1 a2 a3 a4 a5 : Option Addr} {n1 n2 n3 n4 n5 m1 m2 m3 m4 m5 : Nat} : (Instr.build 31 #[(0, .int .i64 k), (1, .slice a1 n1 m1), (2, .slice a2 n2 m2), (3, .slice a3 n3 m3), (4, .slice a4 n4 m4), (5, .slice a5 n5 m5), (6, .int .i64 c), (7, .int .i64 e)]).run Tryd.prog w = .ok (.agg #[.int .i64 k, .slice a1 n1 m1, .slice a2 n2 m2, .slice a3 n3 m3, .slice a4 n4 m4, .slice a5 n5 m5, .int .i64 c, .int .i64 e]) w := by
  kernel_rfl
theorem look_step {a : Act} {d k : Nat} {v : Value} {e : List (Nat × Value)} (h : Nat.beq d k = false) : lookAt a ((d, v) :: e) k = lookAt a e k := by
  show (match Nat.beq d k with | true => v | false => lookAt a e k) = _
  rw [h]
theorem look_far {a : Act} {d k : Nat} {v : Value} {e : List (Nat × Value)} {D : List (Nat × Nat)} {l : Array Bool} {V : Nat → Value} (h : Nat.beq d k = false) (h2 : D.all (fun p => !Nat.beq p.2 k) = true) : lookO a ((d, v) :: (putsI D l V ++ e)) (.tmp k) = lookAt a e k :=
  (look_step h).trans (look_other h2)
theorem cpyZ0 : ([2, 5, 8, 9, 12, 13, 16, 17, 20].all fun k => !(behind cpyR (Array.replicate cpyOps.size false)).getD k false) = true := by kernel_rfl
theorem cpyZ (k : Nat) (h : k ∈ [2, 5, 8, 9, 12, 13, 16, 17, 20]) : (behind cpyR (Array.replicate cpyOps.size false)).getD k false = false := by
  have := List.all_eq_true.1 cpyZ0 k h
  simpa using this
theorem cpyO0 : ([2, 5, 8, 9, 12, 13, 16, 17, 20].all fun k => (behind (cpyD.map fun p => (p.1, false)) (behind cpyR (Array.replicate cpyOps.size false))).getD k false) = true := by kernel_rfl
theorem cpyO (k : Nat) (h : k ∈ [2, 5, 8, 9, 12, 13, 16, 17, 20]) : (behind (cpyD.map fun p => (p.1, false)) (behind cpyR (Array.replicate cpyOps.size false))).getD k false = true := List.all_eq_true.1 cpyO0 k h
theorem cpyF : (cpyD.filter fun p => (behind (cpyD.map fun p => (p.1, false)) (behind cpyR (Array.replicate cpyOps.size false))).getD p.1 false) = cpyD := by
  refine List.filter_eq_self.2 fun p hp => ?_
  simp only [cpyD, List.mem_cons, List.not_mem_nil, or_false] at hp
  rcases hp with rfl | rfl | rfl | rfl | rfl | rfl | rfl | rfl | rfl <;> exact cpyO _ (by simp)
theorem Ch.full {c : Ch} {l : Array Bool} {V : Nat → Value} (h : l.getD c.i2 false = true) : c.cur l V = V c.d2 ∧ c.num l = c.n ∧ c.row l = c.xs := by
  unfold Ch.cur Ch.num Ch.row
  rw [h]
  exact ⟨rfl, rfl, rfl⟩
theorem Ch.none {c : Ch} {l : Array Bool} {V : Nat → Value} (h : l.getD c.i2 false = false) (h2 : l.getD c.i false = false) : c.cur l V = .slice Option.none 0 0 ∧ c.num l = 0 ∧ c.row l = [] := by
  unfold Ch.cur Ch.num Ch.row
  rw [h, h2]
  exact ⟨rfl, rfl, rfl⟩
theorem cpy_start {items : List It} {names cls levels : List ByteArray} {base d : Nat} {parts : List Vec} {W : World} (hb : base ≤ W.heap.size) : JJ base (cpyC items names cls levels) (cpyT base d parts) (behind cpyR (Array.replicate cpyOps.size false)) (fun _ => undef) W := by
  have st : ∀ c ∈ cpyC items names cls levels, (behind cpyR (Array.replicate cpyOps.size false)).getD c.i2 false = false ∧ (behind cpyR (Array.replicate cpyOps.size false)).getD c.i false = false := by
    intro c hc
    simp only [cpyC, List.mem_cons, List.not_mem_nil, or_false] at hc
    rcases hc with rfl | rfl | rfl | rfl <;> exact ⟨cpyZ _ (by simp), cpyZ _ (by simp)⟩
  refine ⟨[], ⟨fun c hc h => ?_, fun c hc => ?_, fun c hc c' hc' _ g hg => ?_, fun c hc g hg => ?_⟩, (fun _ h => by cases h), hb, ⟨fun _ => rfl, fun h => ?_⟩⟩
  · rw [(st c hc).1] at h; cases h
  · obtain ⟨e1, e2, e3⟩ := Ch.none (V := fun _ => undef) (st c hc).1 (st c hc).2
    rw [e1, e2, e3]
    exact ⟨by simp, .inl ⟨rfl, rfl⟩⟩
  · rw [(Ch.none (V := fun _ => undef) (st c hc).1 (st c hc).2).1] at hg; cases hg
  · rw [(Ch.none (V := fun _ => undef) (st c hc).1 (st c hc).2).1] at hg; cases hg
  · rw [cpyZ 8 (by simp)] at h; cases h
/-- All parts, however deep, are vectors. -/
def AllIs : Nat → Vec → Prop
  | 0, _ => True
  | d + 1, v => ∀ i, i < (partsV v).length → IsV 3 ((partsV v).getD i noV) ∧ AllIs d ((partsV v).getD i noV)
structure SCV (d : Nat) : Prop where
  out : ∀ (v : Vec) (val : Value) (lo hi : Nat) (w : World), VecAt lo hi w d v val → hi ≤ w.heap.size → Small d v → AllIs d v → (partsV v).length ≤ 41 → Calls Tryd.prog 62 #[val] w (ResV d v w)
structure SCP (d : Nat) : Prop where
  out : ∀ (parts : List Vec) (a : Option Addr) (c lo hi : Nat) (w : World), VecsAt lo hi w d a parts → hi ≤ w.heap.size → (∀ i, i < parts.length → Small d (parts.getD i noV)) → (∀ i, i < parts.length → IsV 3 (parts.getD i noV) ∧ AllIs d (parts.getD i noV)) → parts.length ≤ 41 → Calls Tryd.prog 61 #[.slice a parts.length c] w (ResP d parts w)
set_option maxHeartbeats 4000000 in
theorem scvStep (d : Nat) (IS : SCP d) : SCV (d + 1) := by
  refine ⟨fun v val lo hi w hv hhi hsm hall hlen => ?_⟩
  obtain ⟨kk, items, parts, names, cls, levels, code, env⟩ := v
  obtain ⟨d', ai, ci, ap, cp, an, cn, ac, cc, al, cl, ed, rfl, hI, hN, hC, hL, hP⟩ := vecAt_open hv
  obtain rfl : d = d' := by omega
  have hsp : ∀ i, i < parts.length → Small d (parts.getD i noV) := fun i hi => hsm.part hi
  obtain ⟨li, lp, ln, lc, ll, _⟩ := hsm
  have NI := Lib.hid (fun (W : World) (hb : Below w.heap.size w W) (hp : 0 < items.length) => show ∃ ad : Addr, ai = some ad ∧ ∀ j u, (itCells items)[j]? = some u → W.cell? (ad.add j) = some u from by
    have h := hI.below hb hhi
    obtain ⟨b, off, rfl⟩ := items_some h hp
    exact ⟨_, rfl, itCells_in h⟩)
  have NN := Lib.hid (fun (W : World) (hb : Below w.heap.size w W) (hp : 0 < names.length) => show ∃ ad : Addr, an = some ad ∧ ∀ j u, (names.map Value.string)[j]? = some u → W.cell? (ad.add j) = some u from by
    have h := hN.below hb hhi
    obtain ⟨b, off, rfl⟩ := texts_some h hp
    exact ⟨_, rfl, news_cells h⟩)
  have NC := Lib.hid (fun (W : World) (hb : Below w.heap.size w W) (hp : 0 < cls.length) => show ∃ ad : Addr, ac = some ad ∧ ∀ j u, (cls.map Value.string)[j]? = some u → W.cell? (ad.add j) = some u from by
    have h := hC.below hb hhi
    obtain ⟨b, off, rfl⟩ := texts_some h hp
    exact ⟨_, rfl, news_cells h⟩)
  have NL := Lib.hid (fun (W : World) (hb : Below w.heap.size w W) (hp : 0 < levels.length) => show ∃ ad : Addr, al = some ad ∧ ∀ j u, (levels.map Value.string)[j]? = some u → W.cell? (ad.add j) = some u from by
    have h := hL.below hb hhi
    obtain ⟨b, off, rfl⟩ := texts_some h hp
    exact ⟨_, rfl, news_cells h⟩)
  have CP := Lib.hid (fun (w1 : World) (hb : Below w.heap.size w w1) => IS.out parts ap cp lo hi w1 (hP.below hb hhi) (Nat.le_trans hhi hb.size) hsp hall hlen)
  clear hv hI hN hC hL hP hsp hall IS
  go_enter Tryd.func62, Tryd.ntmps62
  obtain ⟨w1, hw1⟩ : ∃ W, (w.alloc (.cells #[.int .i64 kk, .slice ai items.length ci, .slice ap parts.length cp, .slice an names.length cn, .slice ac cls.length cc, .slice al levels.length cl, .int .i64 code, .int .i64 env] 31)).alloc (.cells #[.int .i64 0, .slice none 0 0, .slice none 0 0, .slice none 0 0, .slice none 0 0, .slice none 0 0, .int .i64 0, .int .i64 0] 31) = W := ⟨_, rfl⟩
  have hsz : (w.alloc (.cells #[.int .i64 kk, .slice ai items.length ci, .slice ap parts.length cp, .slice an names.length cn, .slice ac cls.length cc, .slice al levels.length cl, .int .i64 code, .int .i64 env] 31)).heap.size = w.heap.size + 1 := by simp
  have H := Lib.hid (show HeldC w w1 [(w.heap.size, 31, #[.int .i64 kk, .slice ai items.length ci, .slice ap parts.length cp, .slice an names.length cn, .slice ac cls.length cc, .slice al levels.length cl, .int .i64 code, .int .i64 env]), (w.heap.size + 1, 31, #[.int .i64 0, .slice none 0 0, .slice none 0 0, .slice none 0 0, .slice none 0 0, .slice none 0 0, .int .i64 0, .int .i64 0])] from heldC_two (hw1 ▸ (below1 w _).alloc (by simp) _) (hw1 ▸ blk_old (blk_new w _ rfl)) (hw1 ▸ hsz ▸ blk_new (w.alloc (.cells #[.int .i64 kk, .slice ai items.length ci, .slice ap parts.length cp, .slice an names.length cn, .slice ac cls.length cc, .slice al levels.length cl, .int .i64 code, .int .i64 env] 31)) (.cells #[.int .i64 0, .slice none 0 0, .slice none 0 0, .slice none 0 0, .slice none 0 0, .slice none 0 0, .int .i64 0, .int .i64 0] 31) rfl))
  have hb1 : w.heap.size + 1 < w1.heap.size := (Array.getElem?_eq_some_iff.1 (heldC_at H.out (List.Mem.tail _ (List.Mem.head _)))).1
  have EW := Lib.hid hw1
  clear hw1
  obtain ⟨i0, hi0, hz0, hz1, hz2⟩ := info_parts infoItm3
  obtain ⟨s0, hs0, hy0, hy1, hy2⟩ := info_parts infoStr
  have GR := Lib.hid (fun (w' w'' : World) (row : Option Nat) (hb : w1.heap.size ≤ w'.heap.size) (hs : HeldC w w' [(w.heap.size, 31, #[.int .i64 kk, .slice ai items.length ci, .slice ap parts.length cp, .slice an names.length cn, .slice ac cls.length cc, .slice al levels.length cl, .int .i64 code, .int .i64 env]), (w.heap.size + 1, 31, #[.int .i64 0, .slice none 0 0, .slice none 0 0, .slice none 0 0, .slice none 0 0, .slice none 0 0, .int .i64 0, .int .i64 0])]) (hrow : ∀ k, row = some k → w1.heap.size ≤ k) (hg : w'.grownBy w'' row) => show HeldC w w'' [(w.heap.size, 31, #[.int .i64 kk, .slice ai items.length ci, .slice ap parts.length cp, .slice an names.length cn, .slice ac cls.length cc, .slice al levels.length cl, .int .i64 code, .int .i64 env]), (w.heap.size + 1, 31, #[.int .i64 0, .slice none 0 0, .slice none 0 0, .slice none 0 0, .slice none 0 0, .slice none 0 0, .int .i64 0, .int .i64 0])] from heldC_grown hs hg (fun k hk => ⟨by have := hrow k hk; omega, fun q hq => by
    have := hrow k hk
    rcases List.mem_cons.1 hq with rfl | hq
    · simp only; omega
    · obtain rfl := List.mem_singleton.1 hq
      simp only; omega⟩))
  go_upto_region 1 with (fail)
  rw [EW.out]
  refine run_regionI (ops := cpyOps) (S := fun w' => HeldC w w' [(w.heap.size, 31, #[.int .i64 kk, .slice ai items.length ci, .slice ap parts.length cp, .slice an names.length cn, .slice ac cls.length cc, .slice al levels.length cl, .int .i64 code, .int .i64 env]), (w.heap.size + 1, 31, #[.int .i64 0, .slice none 0 0, .slice none 0 0, .slice none 0 0, .slice none 0 0, .slice none 0 0, .int .i64 0, .int .i64 0])]) cpyR [(25, true), (26, false)] cpyD cpyDep (JJ w1.heap.size (cpyC items names cls levels) (cpyT w1.heap.size d parts)) [(27, .int .i64 env), (26, .pointer (some ⟨w.heap.size, 7, none⟩)), (25, .int .i64 code), (24, .pointer (some ⟨w.heap.size, 6, none⟩)), (22, .slice al levels.length cl), (21, .pointer (some ⟨w.heap.size, 5, none⟩)), (18, .slice ac cls.length cc), (17, .pointer (some ⟨w.heap.size, 4, none⟩)), (14, .slice an names.length cn), (13, .pointer (some ⟨w.heap.size, 3, none⟩)), (10, .slice ap parts.length cp), (9, .pointer (some ⟨w.heap.size, 2, none⟩)), (7, .slice ai items.length ci), (6, .pointer (some ⟨w.heap.size, 1, none⟩)), (4, .int .i64 kk), (3, .pointer (some ⟨w.heap.size, 0, none⟩))] (fun _ => undef) cpyY (by kernel_rfl) (by kernel_rfl) (by kernel_rfl) (by kernel_rfl) cpyPre cpyAny ⟨by decide, by decide⟩ (by kernel_rfl) (by kernel_rfl) (by kernel_rfl) (fun _ _ _ _ _ h => h) (heldC_drew H.out) (fun Q' h => ?_) ?_ (fun p hp => ?_) (fun V W hJ hS => ?_)
  · refine runC_partV (b := w.heap.size) (by kernel_rfl) (show opAt cpyOps 0 = some (some 3, .fieldAddr 31 (.tmp 1) 0, none) from by kernel_rfl) (by kernel_rfl) (by kernel_rfl) (by kernel_rfl) ?_
    refine runC_cell (b := w.heap.size) (j := 0) (v := .int .i64 kk) load_int (show opAt cpyOps 1 = some (some 4, .load 3 (.tmp 3), none) from by kernel_rfl) (by kernel_rfl) (by kernel_rfl) (by kernel_rfl) (List.Mem.head _) rfl ?_
    refine runC_partV (b := w.heap.size) (by kernel_rfl) (show opAt cpyOps 3 = some (some 6, .fieldAddr 31 (.tmp 1) 1, none) from by kernel_rfl) (by kernel_rfl) (by kernel_rfl) (by kernel_rfl) ?_
    refine runC_cell (b := w.heap.size) (j := 1) (v := .slice ai items.length ci) load_its (show opAt cpyOps 4 = some (some 7, .load 28 (.tmp 6), none) from by kernel_rfl) (by kernel_rfl) (by kernel_rfl) (by kernel_rfl) (List.Mem.head _) rfl ?_
    refine runC_partV (b := w.heap.size) (by kernel_rfl) (show opAt cpyOps 6 = some (some 9, .fieldAddr 31 (.tmp 1) 2, none) from by kernel_rfl) (by kernel_rfl) (by kernel_rfl) (by kernel_rfl) ?_
    refine runC_cell (b := w.heap.size) (j := 2) (v := .slice ap parts.length cp) load_vecs (show opAt cpyOps 7 = some (some 10, .load 29 (.tmp 9), none) from by kernel_rfl) (by kernel_rfl) (by kernel_rfl) (by kernel_rfl) (List.Mem.head _) rfl ?_
    refine runC_partV (b := w.heap.size) (by kernel_rfl) (show opAt cpyOps 10 = some (some 13, .fieldAddr 31 (.tmp 1) 3, none) from by kernel_rfl) (by kernel_rfl) (by kernel_rfl) (by kernel_rfl) ?_
    refine runC_cell (b := w.heap.size) (j := 3) (v := .slice an names.length cn) load_strs (show opAt cpyOps 11 = some (some 14, .load 24 (.tmp 13), none) from by kernel_rfl) (by kernel_rfl) (by kernel_rfl) (by kernel_rfl) (List.Mem.head _) rfl ?_
    refine runC_partV (b := w.heap.size) (by kernel_rfl) (show opAt cpyOps 14 = some (some 17, .fieldAddr 31 (.tmp 1) 4, none) from by kernel_rfl) (by kernel_rfl) (by kernel_rfl) (by kernel_rfl) ?_
    refine runC_cell (b := w.heap.size) (j := 4) (v := .slice ac cls.length cc) load_strs (show opAt cpyOps 15 = some (some 18, .load 24 (.tmp 17), none) from by kernel_rfl) (by kernel_rfl) (by kernel_rfl) (by kernel_rfl) (List.Mem.head _) rfl ?_
    refine runC_partV (b := w.heap.size) (by kernel_rfl) (show opAt cpyOps 18 = some (some 21, .fieldAddr 31 (.tmp 1) 5, none) from by kernel_rfl) (by kernel_rfl) (by kernel_rfl) (by kernel_rfl) ?_
    refine runC_cell (b := w.heap.size) (j := 5) (v := .slice al levels.length cl) load_strs (show opAt cpyOps 19 = some (some 22, .load 24 (.tmp 21), none) from by kernel_rfl) (by kernel_rfl) (by kernel_rfl) (by kernel_rfl) (List.Mem.head _) rfl ?_
    refine runC_partV (b := w.heap.size) (by kernel_rfl) (show opAt cpyOps 21 = some (some 24, .fieldAddr 31 (.tmp 1) 6, none) from by kernel_rfl) (by kernel_rfl) (by kernel_rfl) (by kernel_rfl) ?_
    refine runC_cell (b := w.heap.size) (j := 6) (v := .int .i64 code) load_int (show opAt cpyOps 22 = some (some 25, .load 3 (.tmp 24), none) from by kernel_rfl) (by kernel_rfl) (by kernel_rfl) (by kernel_rfl) (List.Mem.head _) rfl ?_
    refine runC_partV (b := w.heap.size) (by kernel_rfl) (show opAt cpyOps 23 = some (some 26, .fieldAddr 31 (.tmp 1) 7, none) from by kernel_rfl) (by kernel_rfl) (by kernel_rfl) (by kernel_rfl) ?_
    refine runC_cell (b := w.heap.size) (j := 7) (v := .int .i64 env) load_int (show opAt cpyOps 24 = some (some 27, .load 3 (.tmp 26), none) from by kernel_rfl) (by kernel_rfl) (by kernel_rfl) (by kernel_rfl) (List.Mem.head _) rfl ?_
    exact h
  · exact cpy_start (Nat.le_refl _)
  · simp only [cpyD, List.mem_cons, List.not_mem_nil, or_false] at hp
    rcases hp with rfl | rfl | rfl | rfl | rfl | rfl | rfl | rfl | rfl
    · exact stepMake (c := ⟨2, 5, 5, 8, 67, 3, items.length, itCells items⟩) (cpyC_ok items names cls levels) (List.Mem.head _) (cpyT_keep _ _ _ _ _ _ _) (show opAt cpyOps 2 = some (some 5, .buildSlice 28 0 #[], none) from by kernel_rfl) (by kernel_rfl) Tryd.underlying28 hi0 (fun _ _ h => heldC_alloc h _)
    · exact stepFill (c := ⟨2, 5, 5, 8, 67, 3, items.length, itCells items⟩) (y := 7) (by decide) (by simp [cpyD]) (by kernel_rfl) (by simp [cpyDep]) (cpyC_ok items names cls levels) (List.Mem.head _) (cpyT_keep _ _ _ _ _ _ _) (show opAt cpyOps 5 = some (some 8, .call { callee := .builtin .append, args := [.tmp 5, .tmp 7].toArray, argTypes := [28, 28].toArray }, none) from by kernel_rfl) (by kernel_rfl) Tryd.underlying28 hi0 hz0 hz1 hz2 rfl (by simp) ai ci rfl (itCells_len _) (fun W hS hp => NI.out W hS.1 hp) (itCells_one items) (show items.length ≤ maxLen by unfold maxLen; omega) (by simp only; omega) (fun w' w'' row hb hs hrow hg => GR.out w' w'' row hb hs hrow hg)
    · intro l V W hJ hS _ hun _ Q' h
      obtain ⟨X, hj, hX, hb, ht⟩ := hJ
      refine run_call (args := [.slice ap parts.length cp]) (show opAt cpyOps 8 = some (some 11, .call { callee := .value (.func 61), args := [.tmp 10].toArray, argTypes := [29].toArray }, none) from by kernel_rfl) (by kernel_rfl) rfl (by kernel_rfl) (by
        show [lookAt _ (putsI cpyD l V ++ _) 10] = _
        rw [look_other (by kernel_rfl)]
        rfl) ?_
      refine (CP.out W hS.1).mono ?_
      rintro en w2 ⟨v, F, rfl, hp, hn, hr, hbel, _⟩
      refine ⟨_, rfl, heldC_call hS hbel, h _ _ (heldC_call hS hbel) ⟨F, hj.other (fun c hc => ?_) (fun g hg => hbel.block g hg) (fun g hg => (hr g hg).1), fun g hg => (hr g hg).2, Nat.le_trans hb hbel.size, fun h0 => ?_, fun _ => ⟨?_, hn, fun g hg => Nat.le_trans hb (hr g hg).1⟩⟩⟩
      · simp only [cpyC, List.mem_cons, List.not_mem_nil, or_false] at hc
        rcases hc with rfl | rfl | rfl | rfl <;> rfl
      · rw [getD_set_on ‹_›] at h0; cases h0
      · rw [updI_same]; exact hp
    · exact stepMake (c := ⟨9, 12, 12, 15, 9, 1, names.length, names.map Value.string⟩) (cpyC_ok items names cls levels) (List.Mem.tail _ (List.Mem.head _)) (cpyT_keep _ _ _ _ _ _ _) (show opAt cpyOps 9 = some (some 12, .buildSlice 24 0 #[], none) from by kernel_rfl) (by kernel_rfl) Tryd.underlying24 hs0 (fun _ _ h => heldC_alloc h _)
    · exact stepFill (c := ⟨9, 12, 12, 15, 9, 1, names.length, names.map Value.string⟩) (y := 14) (by decide) (by simp [cpyD]) (by kernel_rfl) (by simp [cpyDep]) (cpyC_ok items names cls levels) (List.Mem.tail _ (List.Mem.head _)) (cpyT_keep _ _ _ _ _ _ _) (show opAt cpyOps 12 = some (some 15, .call { callee := .builtin .append, args := [.tmp 12, .tmp 14].toArray, argTypes := [24, 24].toArray }, none) from by kernel_rfl) (by kernel_rfl) Tryd.underlying24 hs0 hy0 hy1 hy2 rfl (by simp) an cn rfl (by simp) (fun W hS hp => NN.out W hS.1 hp) (fun u hu => by obtain ⟨s, _, rfl⟩ := List.mem_map.1 hu; rfl) (show names.length ≤ maxLen by unfold maxLen; omega) (by simp only; omega) (fun w' w'' row hb hs hrow hg => GR.out w' w'' row hb hs hrow hg)
    · exact stepMake (c := ⟨13, 16, 16, 19, 9, 1, cls.length, cls.map Value.string⟩) (cpyC_ok items names cls levels) (List.Mem.tail _ (List.Mem.tail _ (List.Mem.head _))) (cpyT_keep _ _ _ _ _ _ _) (show opAt cpyOps 13 = some (some 16, .buildSlice 24 0 #[], none) from by kernel_rfl) (by kernel_rfl) Tryd.underlying24 hs0 (fun _ _ h => heldC_alloc h _)
    · exact stepFill (c := ⟨13, 16, 16, 19, 9, 1, cls.length, cls.map Value.string⟩) (y := 18) (by decide) (by simp [cpyD]) (by kernel_rfl) (by simp [cpyDep]) (cpyC_ok items names cls levels) (List.Mem.tail _ (List.Mem.tail _ (List.Mem.head _))) (cpyT_keep _ _ _ _ _ _ _) (show opAt cpyOps 16 = some (some 19, .call { callee := .builtin .append, args := [.tmp 16, .tmp 18].toArray, argTypes := [24, 24].toArray }, none) from by kernel_rfl) (by kernel_rfl) Tryd.underlying24 hs0 hy0 hy1 hy2 rfl (by simp) ac cc rfl (by simp) (fun W hS hp => NC.out W hS.1 hp) (fun u hu => by obtain ⟨s, _, rfl⟩ := List.mem_map.1 hu; rfl) (show cls.length ≤ maxLen by unfold maxLen; omega) (by simp only; omega) (fun w' w'' row hb hs hrow hg => GR.out w' w'' row hb hs hrow hg)
    · exact stepMake (c := ⟨17, 20, 20, 23, 9, 1, levels.length, levels.map Value.string⟩) (cpyC_ok items names cls levels) (List.Mem.tail _ (List.Mem.tail _ (List.Mem.tail _ (List.Mem.head _)))) (cpyT_keep _ _ _ _ _ _ _) (show opAt cpyOps 17 = some (some 20, .buildSlice 24 0 #[], none) from by kernel_rfl) (by kernel_rfl) Tryd.underlying24 hs0 (fun _ _ h => heldC_alloc h _)
    · exact stepFill (c := ⟨17, 20, 20, 23, 9, 1, levels.length, levels.map Value.string⟩) (y := 22) (by decide) (by simp [cpyD]) (by kernel_rfl) (by simp [cpyDep]) (cpyC_ok items names cls levels) (List.Mem.tail _ (List.Mem.tail _ (List.Mem.tail _ (List.Mem.head _)))) (cpyT_keep _ _ _ _ _ _ _) (show opAt cpyOps 20 = some (some 23, .call { callee := .builtin .append, args := [.tmp 20, .tmp 22].toArray, argTypes := [24, 24].toArray }, none) from by kernel_rfl) (by kernel_rfl) Tryd.underlying24 hs0 hy0 hy1 hy2 rfl (by simp) al cl rfl (by simp) (fun W hS hp => NL.out W hS.1 hp) (fun u hu => by obtain ⟨s, _, rfl⟩ := List.mem_map.1 hu; rfl) (show levels.length ≤ maxLen by unfold maxLen; omega) (by simp only; omega) (fun w' w'' row hb hs hrow hg => GR.out w' w'' row hb hs hrow hg)
  · obtain ⟨X, hj, hX, hb, ht⟩ := hJ
    have o1 := hj.own ⟨2, 5, 5, 8, 67, 3, items.length, itCells items⟩ (List.Mem.head _)
    obtain ⟨e1, e2, e3⟩ := Ch.full (c := ⟨2, 5, 5, 8, 67, 3, items.length, itCells items⟩) (V := V) (cpyO 5 (by simp))
    rw [e1, e2, e3] at o1
    clear e1 e2 e3
    obtain ⟨a1, k1, F1, v1, p1, n1, r1, c1⟩ := own_of_its o1
    have o2 := hj.own ⟨9, 12, 12, 15, 9, 1, names.length, names.map Value.string⟩ (List.Mem.tail _ (List.Mem.head _))
    obtain ⟨e1, e2, e3⟩ := Ch.full (c := ⟨9, 12, 12, 15, 9, 1, names.length, names.map Value.string⟩) (V := V) (cpyO 12 (by simp))
    rw [e1, e2, e3] at o2
    clear e1 e2 e3
    obtain ⟨a2, k2, F2, v2, p2, n2, r2, c2⟩ := txs_of_row o2
    have o3 := hj.own ⟨13, 16, 16, 19, 9, 1, cls.length, cls.map Value.string⟩ (List.Mem.tail _ (List.Mem.tail _ (List.Mem.head _)))
    obtain ⟨e1, e2, e3⟩ := Ch.full (c := ⟨13, 16, 16, 19, 9, 1, cls.length, cls.map Value.string⟩) (V := V) (cpyO 16 (by simp))
    rw [e1, e2, e3] at o3
    clear e1 e2 e3
    obtain ⟨a3, k3, F3, v3, p3, n3, r3, c3⟩ := txs_of_row o3
    have o4 := hj.own ⟨17, 20, 20, 23, 9, 1, levels.length, levels.map Value.string⟩ (List.Mem.tail _ (List.Mem.tail _ (List.Mem.tail _ (List.Mem.head _))))
    obtain ⟨e1, e2, e3⟩ := Ch.full (c := ⟨17, 20, 20, 23, 9, 1, levels.length, levels.map Value.string⟩) (V := V) (cpyO 20 (by simp))
    rw [e1, e2, e3] at o4
    clear e1 e2 e3
    obtain ⟨a4, k4, F4, v4, p4, n4, r4, c4⟩ := txs_of_row o4
    obtain ⟨hop, hnp, hbp⟩ := ht.2 (cpyO 8 (by simp))
    obtain ⟨ap', kp, vp, cp', pp⟩ := hop
    have d12 : ∀ b ∈ F1, b ∉ F2 := fun b h1 h2 => hj.two ⟨2, 5, 5, 8, 67, 3, items.length, itCells items⟩ (List.Mem.head _) ⟨9, 12, 12, 15, 9, 1, names.length, names.map Value.string⟩ (List.Mem.tail _ (List.Mem.head _)) (by simp) b (by rw [(Ch.full (c := ⟨2, 5, 5, 8, 67, 3, items.length, itCells items⟩) (V := V) (cpyO 5 (by simp))).1]; show (V 8).ownBlock = _; rw [v1]; exact p1.blk _ _ b h1) (by rw [(Ch.full (c := ⟨9, 12, 12, 15, 9, 1, names.length, names.map Value.string⟩) (V := V) (cpyO 12 (by simp))).1]; show (V 15).ownBlock = _; rw [v2]; exact p2.blk _ _ b h2)
    have d13 : ∀ b ∈ F1, b ∉ F3 := fun b h1 h2 => hj.two ⟨2, 5, 5, 8, 67, 3, items.length, itCells items⟩ (List.Mem.head _) ⟨13, 16, 16, 19, 9, 1, cls.length, cls.map Value.string⟩ (List.Mem.tail _ (List.Mem.tail _ (List.Mem.head _))) (by simp) b (by rw [(Ch.full (c := ⟨2, 5, 5, 8, 67, 3, items.length, itCells items⟩) (V := V) (cpyO 5 (by simp))).1]; show (V 8).ownBlock = _; rw [v1]; exact p1.blk _ _ b h1) (by rw [(Ch.full (c := ⟨13, 16, 16, 19, 9, 1, cls.length, cls.map Value.string⟩) (V := V) (cpyO 16 (by simp))).1]; show (V 19).ownBlock = _; rw [v3]; exact p3.blk _ _ b h2)
    have d14 : ∀ b ∈ F1, b ∉ F4 := fun b h1 h2 => hj.two ⟨2, 5, 5, 8, 67, 3, items.length, itCells items⟩ (List.Mem.head _) ⟨17, 20, 20, 23, 9, 1, levels.length, levels.map Value.string⟩ (List.Mem.tail _ (List.Mem.tail _ (List.Mem.tail _ (List.Mem.head _)))) (by simp) b (by rw [(Ch.full (c := ⟨2, 5, 5, 8, 67, 3, items.length, itCells items⟩) (V := V) (cpyO 5 (by simp))).1]; show (V 8).ownBlock = _; rw [v1]; exact p1.blk _ _ b h1) (by rw [(Ch.full (c := ⟨17, 20, 20, 23, 9, 1, levels.length, levels.map Value.string⟩) (V := V) (cpyO 20 (by simp))).1]; show (V 23).ownBlock = _; rw [v4]; exact p4.blk _ _ b h2)
    have x1 : ∀ b ∈ F1, b ∉ X := fun b h1 => hj.out ⟨2, 5, 5, 8, 67, 3, items.length, itCells items⟩ (List.Mem.head _) b (by rw [(Ch.full (c := ⟨2, 5, 5, 8, 67, 3, items.length, itCells items⟩) (V := V) (cpyO 5 (by simp))).1]; show (V 8).ownBlock = _; rw [v1]; exact p1.blk _ _ b h1)
    have d23 : ∀ b ∈ F2, b ∉ F3 := fun b h1 h2 => hj.two ⟨9, 12, 12, 15, 9, 1, names.length, names.map Value.string⟩ (List.Mem.tail _ (List.Mem.head _)) ⟨13, 16, 16, 19, 9, 1, cls.length, cls.map Value.string⟩ (List.Mem.tail _ (List.Mem.tail _ (List.Mem.head _))) (by simp) b (by rw [(Ch.full (c := ⟨9, 12, 12, 15, 9, 1, names.length, names.map Value.string⟩) (V := V) (cpyO 12 (by simp))).1]; show (V 15).ownBlock = _; rw [v2]; exact p2.blk _ _ b h1) (by rw [(Ch.full (c := ⟨13, 16, 16, 19, 9, 1, cls.length, cls.map Value.string⟩) (V := V) (cpyO 16 (by simp))).1]; show (V 19).ownBlock = _; rw [v3]; exact p3.blk _ _ b h2)
    have d24 : ∀ b ∈ F2, b ∉ F4 := fun b h1 h2 => hj.two ⟨9, 12, 12, 15, 9, 1, names.length, names.map Value.string⟩ (List.Mem.tail _ (List.Mem.head _)) ⟨17, 20, 20, 23, 9, 1, levels.length, levels.map Value.string⟩ (List.Mem.tail _ (List.Mem.tail _ (List.Mem.tail _ (List.Mem.head _)))) (by simp) b (by rw [(Ch.full (c := ⟨9, 12, 12, 15, 9, 1, names.length, names.map Value.string⟩) (V := V) (cpyO 12 (by simp))).1]; show (V 15).ownBlock = _; rw [v2]; exact p2.blk _ _ b h1) (by rw [(Ch.full (c := ⟨17, 20, 20, 23, 9, 1, levels.length, levels.map Value.string⟩) (V := V) (cpyO 20 (by simp))).1]; show (V 23).ownBlock = _; rw [v4]; exact p4.blk _ _ b h2)
    have x2 : ∀ b ∈ F2, b ∉ X := fun b h1 => hj.out ⟨9, 12, 12, 15, 9, 1, names.length, names.map Value.string⟩ (List.Mem.tail _ (List.Mem.head _)) b (by rw [(Ch.full (c := ⟨9, 12, 12, 15, 9, 1, names.length, names.map Value.string⟩) (V := V) (cpyO 12 (by simp))).1]; show (V 15).ownBlock = _; rw [v2]; exact p2.blk _ _ b h1)
    have d34 : ∀ b ∈ F3, b ∉ F4 := fun b h1 h2 => hj.two ⟨13, 16, 16, 19, 9, 1, cls.length, cls.map Value.string⟩ (List.Mem.tail _ (List.Mem.tail _ (List.Mem.head _))) ⟨17, 20, 20, 23, 9, 1, levels.length, levels.map Value.string⟩ (List.Mem.tail _ (List.Mem.tail _ (List.Mem.tail _ (List.Mem.head _)))) (by simp) b (by rw [(Ch.full (c := ⟨13, 16, 16, 19, 9, 1, cls.length, cls.map Value.string⟩) (V := V) (cpyO 16 (by simp))).1]; show (V 19).ownBlock = _; rw [v3]; exact p3.blk _ _ b h1) (by rw [(Ch.full (c := ⟨17, 20, 20, 23, 9, 1, levels.length, levels.map Value.string⟩) (V := V) (cpyO 20 (by simp))).1]; show (V 23).ownBlock = _; rw [v4]; exact p4.blk _ _ b h2)
    have x3 : ∀ b ∈ F3, b ∉ X := fun b h1 => hj.out ⟨13, 16, 16, 19, 9, 1, cls.length, cls.map Value.string⟩ (List.Mem.tail _ (List.Mem.tail _ (List.Mem.head _))) b (by rw [(Ch.full (c := ⟨13, 16, 16, 19, 9, 1, cls.length, cls.map Value.string⟩) (V := V) (cpyO 16 (by simp))).1]; show (V 19).ownBlock = _; rw [v3]; exact p3.blk _ _ b h1)
    have x4 : ∀ b ∈ F4, b ∉ X := fun b h1 => hj.out ⟨17, 20, 20, 23, 9, 1, levels.length, levels.map Value.string⟩ (List.Mem.tail _ (List.Mem.tail _ (List.Mem.tail _ (List.Mem.head _)))) b (by rw [(Ch.full (c := ⟨17, 20, 20, 23, 9, 1, levels.length, levels.map Value.string⟩) (V := V) (cpyO 20 (by simp))).1]; show (V 23).ownBlock = _; rw [v4]; exact p4.blk _ _ b h1)
    have y4 : ∀ a : Act, lookO a (putsI cpyD (behind (cpyD.map fun p => (p.1, false)) (behind cpyR (Array.replicate cpyOps.size false))) V ++ [(27, .int .i64 env), (26, .pointer (some ⟨w.heap.size, 7, none⟩)), (25, .int .i64 code), (24, .pointer (some ⟨w.heap.size, 6, none⟩)), (22, .slice al levels.length cl), (21, .pointer (some ⟨w.heap.size, 5, none⟩)), (18, .slice ac cls.length cc), (17, .pointer (some ⟨w.heap.size, 4, none⟩)), (14, .slice an names.length cn), (13, .pointer (some ⟨w.heap.size, 3, none⟩)), (10, .slice ap parts.length cp), (9, .pointer (some ⟨w.heap.size, 2, none⟩)), (7, .slice ai items.length ci), (6, .pointer (some ⟨w.heap.size, 1, none⟩)), (4, .int .i64 kk), (3, .pointer (some ⟨w.heap.size, 0, none⟩))]) (.tmp 4) = .int .i64 kk := fun a => (look_other (by kernel_rfl)).trans rfl
    have y8 : ∀ a : Act, lookO a (putsI cpyD (behind (cpyD.map fun p => (p.1, false)) (behind cpyR (Array.replicate cpyOps.size false))) V ++ [(27, .int .i64 env), (26, .pointer (some ⟨w.heap.size, 7, none⟩)), (25, .int .i64 code), (24, .pointer (some ⟨w.heap.size, 6, none⟩)), (22, .slice al levels.length cl), (21, .pointer (some ⟨w.heap.size, 5, none⟩)), (18, .slice ac cls.length cc), (17, .pointer (some ⟨w.heap.size, 4, none⟩)), (14, .slice an names.length cn), (13, .pointer (some ⟨w.heap.size, 3, none⟩)), (10, .slice ap parts.length cp), (9, .pointer (some ⟨w.heap.size, 2, none⟩)), (7, .slice ai items.length ci), (6, .pointer (some ⟨w.heap.size, 1, none⟩)), (4, .int .i64 kk), (3, .pointer (some ⟨w.heap.size, 0, none⟩))]) (.tmp 8) = .slice a1 items.length k1 := fun a => (look_done (i := 5) (by decide) (by simp [cpyD]) (cpyO 5 (by simp))).trans v1
    have y11 : ∀ a : Act, lookO a (putsI cpyD (behind (cpyD.map fun p => (p.1, false)) (behind cpyR (Array.replicate cpyOps.size false))) V ++ [(27, .int .i64 env), (26, .pointer (some ⟨w.heap.size, 7, none⟩)), (25, .int .i64 code), (24, .pointer (some ⟨w.heap.size, 6, none⟩)), (22, .slice al levels.length cl), (21, .pointer (some ⟨w.heap.size, 5, none⟩)), (18, .slice ac cls.length cc), (17, .pointer (some ⟨w.heap.size, 4, none⟩)), (14, .slice an names.length cn), (13, .pointer (some ⟨w.heap.size, 3, none⟩)), (10, .slice ap parts.length cp), (9, .pointer (some ⟨w.heap.size, 2, none⟩)), (7, .slice ai items.length ci), (6, .pointer (some ⟨w.heap.size, 1, none⟩)), (4, .int .i64 kk), (3, .pointer (some ⟨w.heap.size, 0, none⟩))]) (.tmp 11) = .slice ap' parts.length kp := fun a => (look_done (i := 8) (by decide) (by simp [cpyD]) (cpyO 8 (by simp))).trans vp
    have y15 : ∀ a : Act, lookO a (putsI cpyD (behind (cpyD.map fun p => (p.1, false)) (behind cpyR (Array.replicate cpyOps.size false))) V ++ [(27, .int .i64 env), (26, .pointer (some ⟨w.heap.size, 7, none⟩)), (25, .int .i64 code), (24, .pointer (some ⟨w.heap.size, 6, none⟩)), (22, .slice al levels.length cl), (21, .pointer (some ⟨w.heap.size, 5, none⟩)), (18, .slice ac cls.length cc), (17, .pointer (some ⟨w.heap.size, 4, none⟩)), (14, .slice an names.length cn), (13, .pointer (some ⟨w.heap.size, 3, none⟩)), (10, .slice ap parts.length cp), (9, .pointer (some ⟨w.heap.size, 2, none⟩)), (7, .slice ai items.length ci), (6, .pointer (some ⟨w.heap.size, 1, none⟩)), (4, .int .i64 kk), (3, .pointer (some ⟨w.heap.size, 0, none⟩))]) (.tmp 15) = .slice a2 names.length k2 := fun a => (look_done (i := 12) (by decide) (by simp [cpyD]) (cpyO 12 (by simp))).trans v2
    have y19 : ∀ a : Act, lookO a (putsI cpyD (behind (cpyD.map fun p => (p.1, false)) (behind cpyR (Array.replicate cpyOps.size false))) V ++ [(27, .int .i64 env), (26, .pointer (some ⟨w.heap.size, 7, none⟩)), (25, .int .i64 code), (24, .pointer (some ⟨w.heap.size, 6, none⟩)), (22, .slice al levels.length cl), (21, .pointer (some ⟨w.heap.size, 5, none⟩)), (18, .slice ac cls.length cc), (17, .pointer (some ⟨w.heap.size, 4, none⟩)), (14, .slice an names.length cn), (13, .pointer (some ⟨w.heap.size, 3, none⟩)), (10, .slice ap parts.length cp), (9, .pointer (some ⟨w.heap.size, 2, none⟩)), (7, .slice ai items.length ci), (6, .pointer (some ⟨w.heap.size, 1, none⟩)), (4, .int .i64 kk), (3, .pointer (some ⟨w.heap.size, 0, none⟩))]) (.tmp 19) = .slice a3 cls.length k3 := fun a => (look_done (i := 16) (by decide) (by simp [cpyD]) (cpyO 16 (by simp))).trans v3
    have y23 : ∀ a : Act, lookO a (putsI cpyD (behind (cpyD.map fun p => (p.1, false)) (behind cpyR (Array.replicate cpyOps.size false))) V ++ [(27, .int .i64 env), (26, .pointer (some ⟨w.heap.size, 7, none⟩)), (25, .int .i64 code), (24, .pointer (some ⟨w.heap.size, 6, none⟩)), (22, .slice al levels.length cl), (21, .pointer (some ⟨w.heap.size, 5, none⟩)), (18, .slice ac cls.length cc), (17, .pointer (some ⟨w.heap.size, 4, none⟩)), (14, .slice an names.length cn), (13, .pointer (some ⟨w.heap.size, 3, none⟩)), (10, .slice ap parts.length cp), (9, .pointer (some ⟨w.heap.size, 2, none⟩)), (7, .slice ai items.length ci), (6, .pointer (some ⟨w.heap.size, 1, none⟩)), (4, .int .i64 kk), (3, .pointer (some ⟨w.heap.size, 0, none⟩))]) (.tmp 23) = .slice a4 levels.length k4 := fun a => (look_done (i := 20) (by decide) (by simp [cpyD]) (cpyO 20 (by simp))).trans v4
    have y25 : ∀ a : Act, lookO a (putsI cpyD (behind (cpyD.map fun p => (p.1, false)) (behind cpyR (Array.replicate cpyOps.size false))) V ++ [(27, .int .i64 env), (26, .pointer (some ⟨w.heap.size, 7, none⟩)), (25, .int .i64 code), (24, .pointer (some ⟨w.heap.size, 6, none⟩)), (22, .slice al levels.length cl), (21, .pointer (some ⟨w.heap.size, 5, none⟩)), (18, .slice ac cls.length cc), (17, .pointer (some ⟨w.heap.size, 4, none⟩)), (14, .slice an names.length cn), (13, .pointer (some ⟨w.heap.size, 3, none⟩)), (10, .slice ap parts.length cp), (9, .pointer (some ⟨w.heap.size, 2, none⟩)), (7, .slice ai items.length ci), (6, .pointer (some ⟨w.heap.size, 1, none⟩)), (4, .int .i64 kk), (3, .pointer (some ⟨w.heap.size, 0, none⟩))]) (.tmp 25) = .int .i64 code := fun a => (look_other (by kernel_rfl)).trans rfl
    have y27 : ∀ a : Act, lookO a (putsI cpyD (behind (cpyD.map fun p => (p.1, false)) (behind cpyR (Array.replicate cpyOps.size false))) V ++ [(27, .int .i64 env), (26, .pointer (some ⟨w.heap.size, 7, none⟩)), (25, .int .i64 code), (24, .pointer (some ⟨w.heap.size, 6, none⟩)), (22, .slice al levels.length cl), (21, .pointer (some ⟨w.heap.size, 5, none⟩)), (18, .slice ac cls.length cc), (17, .pointer (some ⟨w.heap.size, 4, none⟩)), (14, .slice an names.length cn), (13, .pointer (some ⟨w.heap.size, 3, none⟩)), (10, .slice ap parts.length cp), (9, .pointer (some ⟨w.heap.size, 2, none⟩)), (7, .slice ai items.length ci), (6, .pointer (some ⟨w.heap.size, 1, none⟩)), (4, .int .i64 kk), (3, .pointer (some ⟨w.heap.size, 0, none⟩))]) (.tmp 27) = .int .i64 env := fun a => (look_other (by kernel_rfl)).trans rfl
    refine run_yield (v := .agg #[.int .i64 kk, .slice a1 items.length k1, .slice ap' parts.length kp, .slice a2 names.length k2, .slice a3 cls.length k3, .slice a4 levels.length k4, .int .i64 code, .int .i64 env]) (show opAt cpyOps 25 = some (some 28, .build 31 #[(0, .tmp 4), (1, .tmp 8), (2, .tmp 11), (3, .tmp 15), (4, .tmp 19), (5, .tmp 23), (6, .tmp 25), (7, .tmp 27)], none) from by kernel_rfl) (by kernel_rfl) rfl (fun o w' h1 _ => by
      unfold execOp
      simp only [h1, List.map_toArray, List.map_cons, List.map_nil, y4, y8, y11, y15, y19, y23, y25, y27]
      exact run_v build_v8) ?_
    refine run_last (p := .pointer (some ⟨w.heap.size + 1, 0, none⟩)) (u := .agg #[.int .i64 kk, .slice a1 items.length k1, .slice ap' parts.length kp, .slice a2 names.length k2, .slice a3 cls.length k3, .slice a4 levels.length k4, .int .i64 code, .int .i64 env]) (w' := W.setRow (w.heap.size + 1) #[.int .i64 kk, .slice a1 items.length k1, .slice ap' parts.length kp, .slice a2 names.length k2, .slice a3 cls.length k3, .slice a4 levels.length k4, .int .i64 code, .int .i64 env]) (by kernel_rfl) (show opAt cpyOps 26 = some (none, .store 31 (.tmp 2) (.tmp 28), none) from by kernel_rfl) rfl ((look_far (by kernel_rfl) (by kernel_rfl)).trans rfl) (look_new _ _) (store_vec8 (heldC_at hS (List.Mem.tail _ (List.Mem.head _))) (by simp [Value.oneCell'])) (run_done ?_)
    clear y4 y8 y11 y15 y19 y23 y25 y27
    have hputs : putsI cpyD (behind (cpyD.map fun p => (p.1, false)) (behind cpyR (Array.replicate cpyOps.size false))) V = [(5, V 5), (8, V 8), (11, V 11), (12, V 12), (15, V 15), (16, V 16), (19, V 19), (20, V 20), (23, V 23)] := by
      unfold putsI
      rw [cpyF]
      rfl
    rw [hputs]
    simp only [List.cons_append, List.nil_append, putAll, Act.put, List.setIfInBounds_toArray, List.set_cons_zero, List.set_cons_succ]
    have ho : OwnVec W (d + 1) (.mk kk items parts names cls levels code env) (.agg #[.int .i64 kk, .slice a1 items.length k1, .slice ap' parts.length kp, .slice a2 names.length k2, .slice a3 cls.length k3, .slice a4 levels.length k4, .int .i64 code, .int .i64 env]) (F1 ++ (X ++ (F2 ++ (F3 ++ F4)))) := by
      unfold OwnVec
      exact ⟨a1, k1, ap', kp, a2, k2, a3, k3, a4, k4, F1, X, F2, F3, F4, rfl, rfl, ⟨c1, cp', c2, c3, c4⟩, p1, p2, p3, p4, pp⟩
    have hown : Own (d + 1) (.mk kk items parts names cls levels code env) (.agg #[.int .i64 kk, .slice a1 items.length k1, .slice ap' parts.length kp, .slice a2 names.length k2, .slice a3 cls.length k3, .slice a4 levels.length k4, .int .i64 code, .int .i64 env]) w1.heap.size W.heap.size W := by
      refine ⟨F1 ++ (X ++ (F2 ++ (F3 ++ F4))), ho, ?_, fun b hb' => ?_⟩
      · simp only [List.nodup_append, List.mem_append]
        refine ⟨n1, ⟨hnp, ⟨n2, ⟨n3, n4, ?_⟩, ?_⟩, ?_⟩, ?_⟩
        · intro x hx y hy e; subst e; exact d34 x hx hy
        · intro x hx y hy e; subst e
          rcases hy with hy | hy
          · exact d23 x hx hy
          · exact d24 x hx hy
        · intro x hx y hy e; subst e
          rcases hy with hy | hy | hy
          · exact x2 x hy hx
          · exact x3 x hy hx
          · exact x4 x hy hx
        · intro x hx y hy e; subst e
          rcases hy with hy | hy | hy | hy
          · exact x1 x hx hy
          · exact d12 x hx hy
          · exact d13 x hx hy
          · exact d14 x hx hy
      · simp only [List.mem_append] at hb'
        rcases hb' with h | h | h | h | h
        · exact r1 b h
        · exact ⟨hbp b h, hX b h⟩
        · exact r2 b h
        · exact r3 b h
        · exact r4 b h
    have HO := Lib.hid hown
    have HS := Lib.hid hS
    clear ho hown hputs hj ht pp p1 p2 p3 p4 o1 o2 o3 o4
    go_wp2
    exact vec_ret0 rfl rfl rfl (row_set (heldC_at HS.out (List.Mem.tail _ (List.Mem.head _)))) ⟨_, rfl, (HO.out.row hb1).wide (by omega) (row_size _ _ _), below_row HS.out.1 (Nat.le_succ _) _⟩
end Go.Proofs.YtddebgmjolojeaaDoor

/- A vector's five slices while a call makes them. -/
namespace Go.Proofs.YtddebgmjolojeaaDoor
open Go.RowKit
set_option maxRecDepth 100000
set_option linter.unusedVariables false

/-- A row of vectors of the call's own, with the blocks X of the vectors. -/
structure RowX (lo : Nat) (w : World) (d : Nat) (parts : List Vec) (v : Value) (X : List Nat) : Prop where
  ex : ∃ (vals : List Value) (Fs : List (List Nat)), vals.length = parts.length ∧ Fs.length = parts.length ∧ w.ownsRow lo 31 8 v parts.length (vals.flatMap cl8) ∧
    (∀ i, i < parts.length → OwnVec w d (parts.getD i noV) (vals.getD i undef) (Fs.getD i [])) ∧ Fs.flatten = X
theorem RowX.row {lo : Nat} {w : World} {d : Nat} {parts : List Vec} {v : Value} {X : List Nat} (h : RowX lo w d parts v X) : ∃ xs, w.ownsRow lo 31 8 v parts.length xs := by
  obtain ⟨vals, Fs, _, _, hr, _⟩ := h.ex
  exact ⟨_, hr⟩
theorem RowX.nil (lo : Nat) (w : World) (d : Nat) : RowX lo w d [] (.slice none 0 0) [] :=
  ⟨[], [], rfl, rfl, ⟨rfl, .inl ⟨rfl, rfl⟩⟩, fun i h => absurd h (Nat.not_lt_zero _), rfl⟩
theorem RowX.kept {lo : Nat} {w w' : World} {d : Nat} {parts : List Vec} {v : Value} {X : List Nat} (h : RowX lo w d parts v X) (hX : ∀ g ∈ X, w'.heap[g]? = w.heap[g]?) (hv : ∀ g, v.ownBlock = some g → w'.heap[g]? = w.heap[g]?) : RowX lo w' d parts v X := by
  obtain ⟨vals, Fs, h1, h2, h3, h4, rfl⟩ := h.ex
  exact ⟨vals, Fs, h1, h2, ownsRow_kept h3 hv, fun i hi => (h4 i hi).kept _ _ _ _ (fun b hb => hX b (mem_flat (by omega) hb)), rfl⟩
theorem RowX.snoc {lo : Nat} {w w' : World} {d : Nat} {parts : List Vec} {v v' : Value} {X F : List Nat} {p : Vec} {c0 c1 c2 c3 c4 c5 c6 c7 : Value} (h : RowX lo w d parts v X) (ho : OwnVec w' d p (.agg #[c0, c1, c2, c3, c4, c5, c6, c7]) F)
    (hr : ∀ xs, w.ownsRow lo 31 8 v parts.length xs → w'.ownsRow lo 31 8 v' (parts.length + 1) (xs ++ [c0, c1, c2, c3, c4, c5, c6, c7])) (hX : ∀ g ∈ X, w'.heap[g]? = w.heap[g]?) : RowX lo w' d (parts ++ [p]) v' (X ++ F) := by
  obtain ⟨vals, Fs, h1, h2, h3, h4, rfl⟩ := h.ex
  have hl : (parts ++ [p]).length = parts.length + 1 := by simp
  refine ⟨vals ++ [Value.agg #[c0, c1, c2, c3, c4, c5, c6, c7]], Fs ++ [F], by simp [h1], by simp [h2], ?_, fun i hi => ?_, by simp⟩
  · rw [hl, List.flatMap_append]
    exact hr _ h3
  · rw [hl] at hi
    by_cases e : i = parts.length
    · subst e
      have e0 : (parts ++ [p]).getD parts.length noV = p := by rw [List.getD_eq_getElem?_getD, List.getElem?_append_right (by omega)]; simp
      have e1 : (vals ++ [Value.agg #[c0, c1, c2, c3, c4, c5, c6, c7]]).getD parts.length undef = .agg #[c0, c1, c2, c3, c4, c5, c6, c7] := by rw [List.getD_eq_getElem?_getD, List.getElem?_append_right (by omega)]; simp [h1]
      have e2 : (Fs ++ [F]).getD parts.length [] = F := by rw [List.getD_eq_getElem?_getD, List.getElem?_append_right (by omega)]; simp [h2]
      rw [e0, e1, e2]
      exact ho
    · have e0 : (parts ++ [p]).getD i noV = parts.getD i noV := by rw [List.getD_eq_getElem?_getD, List.getD_eq_getElem?_getD, List.getElem?_append_left (by omega)]
      have e1 : (vals ++ [Value.agg #[c0, c1, c2, c3, c4, c5, c6, c7]]).getD i undef = vals.getD i undef := by rw [List.getD_eq_getElem?_getD, List.getD_eq_getElem?_getD, List.getElem?_append_left (by omega)]
      have e2 : (Fs ++ [F]).getD i [] = Fs.getD i [] := by rw [List.getD_eq_getElem?_getD, List.getD_eq_getElem?_getD, List.getElem?_append_left (by omega)]
      rw [e0, e1, e2]
      exact (h4 i (by omega)).kept _ _ _ _ (fun b hb => hX b (mem_flat (by omega) hb))
theorem RowX.own {lo : Nat} {w : World} {d : Nat} {parts : List Vec} {v : Value} {X : List Nat} (h : RowX lo w d parts v X) : ∃ ap cp F, v = .slice ap parts.length cp ∧ parts.length ≤ cp ∧
    ((parts = [] ∧ F = []) ∨ ∃ b C, ∃ Fs : List (List Nat), F = b :: Fs.flatten ∧ Fs.length = parts.length ∧ ap = some ⟨b, 0, none⟩ ∧ w.heap[b]? = some (.cells C 31 (0, 0)) ∧ parts.length * 8 ≤ C.size ∧
      ∀ i, i < parts.length → ∃ val, OwnVec w d (parts.getD i noV) val (Fs.getD i []) ∧ Eight C i val) ∧ (∀ g ∈ F, v.ownBlock = some g ∨ g ∈ X) ∧ (X.Nodup → (∀ g, v.ownBlock = some g → g ∉ X) → F.Nodup) := by
  obtain ⟨vals, Fs, h1, h2, ⟨hl, h3⟩, h4, rfl⟩ := h.ex
  rcases h3 with ⟨rfl, h0⟩ | ⟨g, cap, cur, rfl, hB, hg, hc, _, hs, ht⟩
  · have hp : parts = [] := List.eq_nil_of_length_eq_zero h0
    subst hp
    exact ⟨none, 0, [], rfl, Nat.le_refl _, .inl ⟨rfl, rfl⟩, (fun _ h => by cases h), fun _ _ => List.nodup_nil⟩
  · refine ⟨_, cap, g :: Fs.flatten, rfl, hc, .inr ⟨g, cur, Fs, rfl, h2, rfl, hg, by omega, fun i hi => ⟨_, h4 i hi, ?_⟩⟩, fun b hb => ?_, fun hn ho => List.nodup_cons.2 ⟨ho g rfl, hn⟩⟩
    · obtain ⟨c0, c1, c2, c3, c4, c5, c6, c7, e, m0, m1, m2, m3, m4, m5, m6, m7⟩ := flat8_at vals (RowV.is8 h1 h4) i (by omega)
      have key : ∀ j, j < parts.length * 8 → cur[j]? = (vals.flatMap cl8)[j]? := fun j hj => by
        rw [← ht, List.getElem?_take_of_lt hj, Array.getElem?_toList]
      refine ⟨c0, c1, c2, c3, c4, c5, c6, c7, e, ?_, ?_, ?_, ?_, ?_, ?_, ?_, ?_⟩
      · rw [key _ (by omega)]; exact m0
      · rw [key _ (by omega)]; exact m1
      · rw [key _ (by omega)]; exact m2
      · rw [key _ (by omega)]; exact m3
      · rw [key _ (by omega)]; exact m4
      · rw [key _ (by omega)]; exact m5
      · rw [key _ (by omega)]; exact m6
      · rw [key _ (by omega)]; exact m7
    · rcases List.mem_cons.1 hb with rfl | hb
      · exact .inl rfl
      · exact .inr hb
/-- No block is both's. -/
def Apart2 (a b : Value) : Prop := ∀ g, a.ownBlock = some g → b.ownBlock ≠ some g
def Off (v : Value) (X : List Nat) : Prop := ∀ g, v.ownBlock = some g → g ∉ X
def Below1 (v : Value) (w : World) : Prop := ∀ g, v.ownBlock = some g → g < w.heap.size
/-- v' took v's place: the same block, or a new one. -/
def Moved (w : World) (v v' : Value) : Prop := v'.ownBlock = v.ownBlock ∨ ∃ g, v'.ownBlock = some g ∧ w.heap.size ≤ g
theorem Apart2.symm {a b : Value} (h : Apart2 a b) : Apart2 b a := fun g hb ha => h g ha hb
theorem Apart2.moved {w : World} {a a' b : Value} (h : Apart2 a b) (hm : Moved w a a') (hb : Below1 b w) : Apart2 a' b := fun g ha hg => by
  rcases hm with e | ⟨g', e, hle⟩
  · exact h g (e ▸ ha) hg
  · rw [e] at ha
    have := Option.some.inj ha
    have := hb g hg
    omega
theorem Off.moved {w : World} {a a' : Value} {X : List Nat} (h : Off a X) (hm : Moved w a a') (hX : ∀ g ∈ X, g < w.heap.size) : Off a' X := fun g ha hg => by
  rcases hm with e | ⟨g', e, hle⟩
  · exact h g (e ▸ ha) hg
  · rw [e] at ha
    have := Option.some.inj ha
    have := hX g hg
    omega
theorem apart_nil (b : Value) : Apart2 (.slice none 0 0) b := fun g h => by cases h
theorem row_below {lo : Nat} {w : World} {el : TypeId} {size n : Nat} {v : Value} {xs : List Value} (h : w.ownsRow lo el size v n xs) : Below1 v w := fun g hg => (h.lt g hg).2
/-- The five slices of a vector that a call makes, each in blocks of its own, at or above lo. -/
structure Und (lo : Nat) (w : World) (d : Nat) (items : List It) (parts : List Vec) (names cls lev : List ByteArray) (vi vp vn vc vl : Value) (X : List Nat) : Prop where
  i : w.ownsRow lo 67 3 vi items.length (itCells items)
  p : RowX lo w d parts vp X
  n : w.ownsRow lo 9 1 vn names.length (names.map Value.string)
  c : w.ownsRow lo 9 1 vc cls.length (cls.map Value.string)
  l : w.ownsRow lo 9 1 vl lev.length (lev.map Value.string)
  nd : X.Nodup
  rg : ∀ g ∈ X, lo ≤ g ∧ g < w.heap.size
  two : (Apart2 vi vp ∧ Apart2 vi vn ∧ Apart2 vi vc ∧ Apart2 vi vl) ∧ (Apart2 vp vn ∧ Apart2 vp vc ∧ Apart2 vp vl) ∧ (Apart2 vn vc ∧ Apart2 vn vl) ∧ Apart2 vc vl
  off : Off vi X ∧ Off vp X ∧ Off vn X ∧ Off vc X ∧ Off vl X
theorem Und.start (lo : Nat) (w : World) (d : Nat) : Und lo w d [] [] [] [] [] (.slice none 0 0) (.slice none 0 0) (.slice none 0 0) (.slice none 0 0) (.slice none 0 0) [] :=
  ⟨⟨rfl, .inl ⟨rfl, rfl⟩⟩, RowX.nil _ _ _, ⟨rfl, .inl ⟨rfl, rfl⟩⟩, ⟨rfl, .inl ⟨rfl, rfl⟩⟩, ⟨rfl, .inl ⟨rfl, rfl⟩⟩, List.nodup_nil, (fun _ h => by cases h), ⟨⟨apart_nil _, apart_nil _, apart_nil _, apart_nil _⟩, ⟨apart_nil _, apart_nil _, apart_nil _⟩, ⟨apart_nil _, apart_nil _⟩, apart_nil _⟩, ⟨(fun _ _ h => by cases h), (fun _ _ h => by cases h), (fun _ _ h => by cases h), (fun _ _ h => by cases h), (fun _ _ h => by cases h)⟩⟩
theorem Und.pb {lo : Nat} {w : World} {d : Nat} {items : List It} {parts : List Vec} {names cls lev : List ByteArray} {vi vp vn vc vl : Value} {X : List Nat} (h : Und lo w d items parts names cls lev vi vp vn vc vl X) : Below1 vp w ∧ ∀ g, vp.ownBlock = some g → lo ≤ g := by
  obtain ⟨xs, hr⟩ := h.p.row
  exact ⟨row_below hr, fun g hg => (hr.lt g hg).1⟩
theorem Und.kept {lo : Nat} {w : World} {d : Nat} {items : List It} {parts : List Vec} {names cls lev : List ByteArray} {vi vp vn vc vl : Value} {X : List Nat} {w' : World} (h : Und lo w d items parts names cls lev vi vp vn vc vl X) (hk : ∀ g, lo ≤ g → g < w.heap.size → w'.heap[g]? = w.heap[g]?) (hs : w.heap.size ≤ w'.heap.size) : Und lo w' d items parts names cls lev vi vp vn vc vl X :=
  ⟨ownsRow_kept h.i fun g hg => hk g (h.i.lt g hg).1 (h.i.lt g hg).2, h.p.kept (fun g hg => hk g (h.rg g hg).1 (h.rg g hg).2) (fun g hg => hk g (h.pb.2 g hg) (h.pb.1 g hg)), ownsRow_kept h.n fun g hg => hk g (h.n.lt g hg).1 (h.n.lt g hg).2, ownsRow_kept h.c fun g hg => hk g (h.c.lt g hg).1 (h.c.lt g hg).2, ownsRow_kept h.l fun g hg => hk g (h.l.lt g hg).1 (h.l.lt g hg).2, h.nd, fun g hg => ⟨(h.rg g hg).1, Nat.lt_of_lt_of_le (h.rg g hg).2 hs⟩, h.two, h.off⟩
theorem Und.below {lo : Nat} {w : World} {d : Nat} {items : List It} {parts : List Vec} {names cls lev : List ByteArray} {vi vp vn vc vl : Value} {X : List Nat} {w' : World} (h : Und lo w d items parts names cls lev vi vp vn vc vl X) (hb : Below w.heap.size w w') : Und lo w' d items parts names cls lev vi vp vn vc vl X := h.kept (fun g _ hg => hb.block g hg) hb.size
/-- A store into a block below lo. -/
theorem Und.put {lo : Nat} {w : World} {d : Nat} {items : List It} {parts : List Vec} {names cls lev : List ByteArray} {vi vp vn vc vl : Value} {X : List Nat} (h : Und lo w d items parts names cls lev vi vp vn vc vl X) {b j : Nat} {u : Value} (hb : b < lo) : Und lo (w.setCell ⟨b, j, none⟩ u) d items parts names cls lev vi vp vn vc vl X :=
  h.kept (fun g hg _ => Below.heap_setCell _ _ _ _ (by show g ≠ b; omega)) (by simp)
theorem Und.setI {lo : Nat} {w : World} {d : Nat} {items : List It} {parts : List Vec} {names cls lev : List ByteArray} {vi vp vn vc vl : Value} {X : List Nat} {w' : World} {items' : List It} {vi' : Value} (h : Und lo w d items parts names cls lev vi vp vn vc vl X) (hr : w'.ownsRow lo 67 3 vi' items'.length (itCells items')) (hm : Moved w vi vi') (hk : ∀ g, lo ≤ g → g < w.heap.size → vi.ownBlock ≠ some g → w'.heap[g]? = w.heap[g]?) (hs : w.heap.size ≤ w'.heap.size) :
    Und lo w' d items' parts names cls lev vi' vp vn vc vl X :=
  ⟨hr, h.p.kept (fun g hg => hk g (h.rg g hg).1 (h.rg g hg).2 (fun e => h.off.1 g e hg)) (fun g hg => hk g (h.pb.2 g hg) (h.pb.1 g hg) (fun e => h.two.1.1 g e hg)), ownsRow_kept h.n (fun g hg => hk g (h.n.lt g hg).1 (h.n.lt g hg).2 (fun e => h.two.1.2.1 g e hg)), ownsRow_kept h.c (fun g hg => hk g (h.c.lt g hg).1 (h.c.lt g hg).2 (fun e => h.two.1.2.2.1 g e hg)), ownsRow_kept h.l (fun g hg => hk g (h.l.lt g hg).1 (h.l.lt g hg).2 (fun e => h.two.1.2.2.2 g e hg)), h.nd, fun g hg => ⟨(h.rg g hg).1, Nat.lt_of_lt_of_le (h.rg g hg).2 hs⟩, ⟨⟨(h.two.1.1.moved hm h.pb.1), (h.two.1.2.1.moved hm (row_below h.n)), (h.two.1.2.2.1.moved hm (row_below h.c)), (h.two.1.2.2.2.moved hm (row_below h.l))⟩, ⟨h.two.2.1.1, h.two.2.1.2.1, h.two.2.1.2.2⟩, ⟨h.two.2.2.1.1, h.two.2.2.1.2⟩, h.two.2.2.2⟩, ⟨h.off.1.moved hm (fun g hg => (h.rg g hg).2), h.off.2.1, h.off.2.2.1, h.off.2.2.2.1, h.off.2.2.2.2⟩⟩
theorem Und.setN {lo : Nat} {w : World} {d : Nat} {items : List It} {parts : List Vec} {names cls lev : List ByteArray} {vi vp vn vc vl : Value} {X : List Nat} {w' : World} {names' : List ByteArray} {vn' : Value} (h : Und lo w d items parts names cls lev vi vp vn vc vl X) (hr : w'.ownsRow lo 9 1 vn' names'.length (names'.map Value.string)) (hm : Moved w vn vn') (hk : ∀ g, lo ≤ g → g < w.heap.size → vn.ownBlock ≠ some g → w'.heap[g]? = w.heap[g]?) (hs : w.heap.size ≤ w'.heap.size) :
    Und lo w' d items parts names' cls lev vi vp vn' vc vl X :=
  ⟨ownsRow_kept h.i (fun g hg => hk g (h.i.lt g hg).1 (h.i.lt g hg).2 (fun e => h.two.1.2.1.symm g e hg)), h.p.kept (fun g hg => hk g (h.rg g hg).1 (h.rg g hg).2 (fun e => h.off.2.2.1 g e hg)) (fun g hg => hk g (h.pb.2 g hg) (h.pb.1 g hg) (fun e => h.two.2.1.1.symm g e hg)), hr, ownsRow_kept h.c (fun g hg => hk g (h.c.lt g hg).1 (h.c.lt g hg).2 (fun e => h.two.2.2.1.1 g e hg)), ownsRow_kept h.l (fun g hg => hk g (h.l.lt g hg).1 (h.l.lt g hg).2 (fun e => h.two.2.2.1.2 g e hg)), h.nd, fun g hg => ⟨(h.rg g hg).1, Nat.lt_of_lt_of_le (h.rg g hg).2 hs⟩, ⟨⟨h.two.1.1, (h.two.1.2.1.symm.moved hm (row_below h.i)).symm, h.two.1.2.2.1, h.two.1.2.2.2⟩, ⟨(h.two.2.1.1.symm.moved hm h.pb.1).symm, h.two.2.1.2.1, h.two.2.1.2.2⟩, ⟨(h.two.2.2.1.1.moved hm (row_below h.c)), (h.two.2.2.1.2.moved hm (row_below h.l))⟩, h.two.2.2.2⟩, ⟨h.off.1, h.off.2.1, h.off.2.2.1.moved hm (fun g hg => (h.rg g hg).2), h.off.2.2.2.1, h.off.2.2.2.2⟩⟩
theorem Und.setC {lo : Nat} {w : World} {d : Nat} {items : List It} {parts : List Vec} {names cls lev : List ByteArray} {vi vp vn vc vl : Value} {X : List Nat} {w' : World} {cls' : List ByteArray} {vc' : Value} (h : Und lo w d items parts names cls lev vi vp vn vc vl X) (hr : w'.ownsRow lo 9 1 vc' cls'.length (cls'.map Value.string)) (hm : Moved w vc vc') (hk : ∀ g, lo ≤ g → g < w.heap.size → vc.ownBlock ≠ some g → w'.heap[g]? = w.heap[g]?) (hs : w.heap.size ≤ w'.heap.size) :
    Und lo w' d items parts names cls' lev vi vp vn vc' vl X :=
  ⟨ownsRow_kept h.i (fun g hg => hk g (h.i.lt g hg).1 (h.i.lt g hg).2 (fun e => h.two.1.2.2.1.symm g e hg)), h.p.kept (fun g hg => hk g (h.rg g hg).1 (h.rg g hg).2 (fun e => h.off.2.2.2.1 g e hg)) (fun g hg => hk g (h.pb.2 g hg) (h.pb.1 g hg) (fun e => h.two.2.1.2.1.symm g e hg)), ownsRow_kept h.n (fun g hg => hk g (h.n.lt g hg).1 (h.n.lt g hg).2 (fun e => h.two.2.2.1.1.symm g e hg)), hr, ownsRow_kept h.l (fun g hg => hk g (h.l.lt g hg).1 (h.l.lt g hg).2 (fun e => h.two.2.2.2 g e hg)), h.nd, fun g hg => ⟨(h.rg g hg).1, Nat.lt_of_lt_of_le (h.rg g hg).2 hs⟩, ⟨⟨h.two.1.1, h.two.1.2.1, (h.two.1.2.2.1.symm.moved hm (row_below h.i)).symm, h.two.1.2.2.2⟩, ⟨h.two.2.1.1, (h.two.2.1.2.1.symm.moved hm h.pb.1).symm, h.two.2.1.2.2⟩, ⟨(h.two.2.2.1.1.symm.moved hm (row_below h.n)).symm, h.two.2.2.1.2⟩, (h.two.2.2.2.moved hm (row_below h.l))⟩, ⟨h.off.1, h.off.2.1, h.off.2.2.1, h.off.2.2.2.1.moved hm (fun g hg => (h.rg g hg).2), h.off.2.2.2.2⟩⟩
theorem Und.setL {lo : Nat} {w : World} {d : Nat} {items : List It} {parts : List Vec} {names cls lev : List ByteArray} {vi vp vn vc vl : Value} {X : List Nat} {w' : World} {lev' : List ByteArray} {vl' : Value} (h : Und lo w d items parts names cls lev vi vp vn vc vl X) (hr : w'.ownsRow lo 9 1 vl' lev'.length (lev'.map Value.string)) (hm : Moved w vl vl') (hk : ∀ g, lo ≤ g → g < w.heap.size → vl.ownBlock ≠ some g → w'.heap[g]? = w.heap[g]?) (hs : w.heap.size ≤ w'.heap.size) :
    Und lo w' d items parts names cls lev' vi vp vn vc vl' X :=
  ⟨ownsRow_kept h.i (fun g hg => hk g (h.i.lt g hg).1 (h.i.lt g hg).2 (fun e => h.two.1.2.2.2.symm g e hg)), h.p.kept (fun g hg => hk g (h.rg g hg).1 (h.rg g hg).2 (fun e => h.off.2.2.2.2 g e hg)) (fun g hg => hk g (h.pb.2 g hg) (h.pb.1 g hg) (fun e => h.two.2.1.2.2.symm g e hg)), ownsRow_kept h.n (fun g hg => hk g (h.n.lt g hg).1 (h.n.lt g hg).2 (fun e => h.two.2.2.1.2.symm g e hg)), ownsRow_kept h.c (fun g hg => hk g (h.c.lt g hg).1 (h.c.lt g hg).2 (fun e => h.two.2.2.2.symm g e hg)), hr, h.nd, fun g hg => ⟨(h.rg g hg).1, Nat.lt_of_lt_of_le (h.rg g hg).2 hs⟩, ⟨⟨h.two.1.1, h.two.1.2.1, h.two.1.2.2.1, (h.two.1.2.2.2.symm.moved hm (row_below h.i)).symm⟩, ⟨h.two.2.1.1, h.two.2.1.2.1, (h.two.2.1.2.2.symm.moved hm h.pb.1).symm⟩, ⟨h.two.2.2.1.1, (h.two.2.2.1.2.symm.moved hm (row_below h.n)).symm⟩, (h.two.2.2.2.symm.moved hm (row_below h.c)).symm⟩, ⟨h.off.1, h.off.2.1, h.off.2.2.1, h.off.2.2.2.1, h.off.2.2.2.2.moved hm (fun g hg => (h.rg g hg).2)⟩⟩
theorem Und.setP {lo : Nat} {w : World} {d : Nat} {items : List It} {parts : List Vec} {names cls lev : List ByteArray} {vi vp vn vc vl : Value} {X : List Nat} {w' : World} {parts' : List Vec} {vp' : Value} {X' : List Nat} (h : Und lo w d items parts names cls lev vi vp vn vc vl X) (hr : RowX lo w' d parts' vp' X') (hm : Moved w vp vp') (hk : ∀ g, lo ≤ g → g < w.heap.size → vp.ownBlock ≠ some g → w'.heap[g]? = w.heap[g]?) (hs : w.heap.size ≤ w'.heap.size)
    (hnd : X'.Nodup) (hX : ∀ g ∈ X', (g ∈ X ∨ w.heap.size ≤ g) ∧ g < w'.heap.size) (hlo : lo ≤ w.heap.size) (hoff : Off vp' X') : Und lo w' d items parts' names cls lev vi vp' vn vc vl X' := by
  have F : ∀ {v : Value}, Off v X → Below1 v w → Off v X' := fun hv hb g hg hx => by
    rcases (hX g hx).1 with h1 | h1
    · exact hv g hg h1
    · have := hb g hg; omega
  exact ⟨ownsRow_kept h.i (fun g hg => hk g (h.i.lt g hg).1 (h.i.lt g hg).2 (fun e => h.two.1.1.symm g e hg)), hr, ownsRow_kept h.n (fun g hg => hk g (h.n.lt g hg).1 (h.n.lt g hg).2 (fun e => h.two.2.1.1 g e hg)), ownsRow_kept h.c (fun g hg => hk g (h.c.lt g hg).1 (h.c.lt g hg).2 (fun e => h.two.2.1.2.1 g e hg)), ownsRow_kept h.l (fun g hg => hk g (h.l.lt g hg).1 (h.l.lt g hg).2 (fun e => h.two.2.1.2.2 g e hg)), hnd, fun g hg => ⟨(by rcases (hX g hg).1 with h1 | h1; exact (h.rg g h1).1; omega), (hX g hg).2⟩, ⟨⟨(h.two.1.1.symm.moved hm (row_below h.i)).symm, h.two.1.2.1, h.two.1.2.2.1, h.two.1.2.2.2⟩, ⟨(h.two.2.1.1.moved hm (row_below h.n)), (h.two.2.1.2.1.moved hm (row_below h.c)), (h.two.2.1.2.2.moved hm (row_below h.l))⟩, ⟨h.two.2.2.1.1, h.two.2.2.1.2⟩, h.two.2.2.2⟩, ⟨F h.off.1 (row_below h.i), hoff, F h.off.2.2.1 (row_below h.n), F h.off.2.2.2.1 (row_below h.c), F h.off.2.2.2.2 (row_below h.l)⟩⟩
theorem Und.own {lo : Nat} {w : World} {d : Nat} {items : List It} {parts : List Vec} {names cls lev : List ByteArray} {vi vp vn vc vl : Value} {X : List Nat} (h : Und lo w d items parts names cls lev vi vp vn vc vl X) (k : Int) : Own (d + 1) (.mk k items parts names cls lev 0 0) (.agg #[.int .i64 k, vi, vp, vn, vc, vl, .int .i64 0, .int .i64 0]) lo w.heap.size w := by
  have off := h.off
  have two := h.two
  have pb := h.pb
  have rg := h.rg
  obtain ⟨ai, ci, Fi, rfl, oi, ni, ri, qi⟩ := own_of_its h.i
  obtain ⟨ap, cp, Fp, rfl, qp, op, dp, np⟩ := h.p.own
  obtain ⟨an, cn, Fn, rfl, on, nn, rn, qn⟩ := txs_of_row h.n
  obtain ⟨ac, cc, Fc, rfl, oc, nc, rc, qc⟩ := txs_of_row h.c
  obtain ⟨al, cl, Fl, rfl, ol, nl, rl, ql⟩ := txs_of_row h.l
  have di := oi.blk items.length ci
  have dn := on.blk names.length cn
  have dc := oc.blk cls.length cc
  have dl := ol.blk lev.length cl
  refine ⟨Fi ++ (Fp ++ (Fn ++ (Fc ++ Fl))), ?_, ?_, ?_⟩
  · unfold OwnVec
    exact ⟨ai, ci, ap, cp, an, cn, ac, cc, al, cl, Fi, Fp, Fn, Fc, Fl, rfl, rfl, ⟨qi, qp, qn, qc, ql⟩, oi, on, oc, ol, op⟩
  · rw [List.nodup_append, List.nodup_append, List.nodup_append, List.nodup_append]
    refine ⟨ni, ⟨np h.nd off.2.1, ⟨nn, ⟨nc, nl, fun x hx y hy e => two.2.2.2 x (dc x hx) (e ▸ dl y hy)⟩, fun x hx y hy e => ?_⟩, fun x hx y hy e => ?_⟩, fun x hx y hy e => ?_⟩
    · rcases List.mem_append.1 hy with hy | hy
      · exact two.2.2.1.1 x (dn x hx) (e ▸ dc y hy)
      · exact two.2.2.1.2 x (dn x hx) (e ▸ dl y hy)
    · subst e
      rcases dp x hx with hx | hx
      · rcases List.mem_append.1 hy with hy | hy
        · exact two.2.1.1 x hx (dn x hy)
        · rcases List.mem_append.1 hy with hy | hy
          · exact two.2.1.2.1 x hx (dc x hy)
          · exact two.2.1.2.2 x hx (dl x hy)
      · rcases List.mem_append.1 hy with hy | hy
        · exact off.2.2.1 x (dn x hy) hx
        · rcases List.mem_append.1 hy with hy | hy
          · exact off.2.2.2.1 x (dc x hy) hx
          · exact off.2.2.2.2 x (dl x hy) hx
    · subst e
      rcases List.mem_append.1 hy with hy | hy
      · rcases dp x hy with hy | hy
        · exact two.1.1 x (di x hx) hy
        · exact off.1 x (di x hx) hy
      · rcases List.mem_append.1 hy with hy | hy
        · exact two.1.2.1 x (di x hx) (dn x hy)
        · rcases List.mem_append.1 hy with hy | hy
          · exact two.1.2.2.1 x (di x hx) (dc x hy)
          · exact two.1.2.2.2 x (di x hx) (dl x hy)
  · intro g hg
    rcases List.mem_append.1 hg with hg | hg
    · exact ri g hg
    · rcases List.mem_append.1 hg with hg | hg
      · rcases dp g hg with hg | hg
        · exact ⟨pb.2 g hg, pb.1 g hg⟩
        · exact rg g hg
      · rcases List.mem_append.1 hg with hg | hg
        · exact rn g hg
        · rcases List.mem_append.1 hg with hg | hg
          · exact rc g hg
          · exact rl g hg
/-- A block that is none of the five slices'. -/
def UFree (b : Nat) (vi vp vn vc vl : Value) (X : List Nat) : Prop := vi.ownBlock ≠ some b ∧ vp.ownBlock ≠ some b ∧ vn.ownBlock ≠ some b ∧ vc.ownBlock ≠ some b ∧ vl.ownBlock ≠ some b ∧ b ∉ X
theorem Und.free {lo : Nat} {w : World} {d : Nat} {items : List It} {parts : List Vec} {names cls lev : List ByteArray} {vi vp vn vc vl : Value} {X : List Nat} (h : Und lo w d items parts names cls lev vi vp vn vc vl X) {b : Nat} (hb : w.heap.size ≤ b) : UFree b vi vp vn vc vl X :=
  ⟨fun e => by have := (h.i.lt b e).2; omega, fun e => by have := h.pb.1 b e; omega, fun e => by have := (h.n.lt b e).2; omega, fun e => by have := (h.c.lt b e).2; omega, fun e => by have := (h.l.lt b e).2; omega, fun e => by have := (h.rg b e).2; omega⟩
theorem Und.under {lo : Nat} {w : World} {d : Nat} {items : List It} {parts : List Vec} {names cls lev : List ByteArray} {vi vp vn vc vl : Value} {X : List Nat} (h : Und lo w d items parts names cls lev vi vp vn vc vl X) {b : Nat} (hb : b < lo) : UFree b vi vp vn vc vl X :=
  ⟨fun e => by have := (h.i.lt b e).1; omega, fun e => by have := h.pb.2 b e; omega, fun e => by have := (h.n.lt b e).1; omega, fun e => by have := (h.c.lt b e).1; omega, fun e => by have := (h.l.lt b e).1; omega, fun e => by have := (h.rg b e).1; omega⟩
/-- All but one block are kept. -/
theorem Und.but {lo : Nat} {w : World} {d : Nat} {items : List It} {parts : List Vec} {names cls lev : List ByteArray} {vi vp vn vc vl : Value} {X : List Nat} {w' : World} {b : Nat} (h : Und lo w d items parts names cls lev vi vp vn vc vl X) (hf : UFree b vi vp vn vc vl X) (hk : ∀ g, g < w.heap.size → g ≠ b → w'.heap[g]? = w.heap[g]?) (hs : w.heap.size ≤ w'.heap.size) : Und lo w' d items parts names cls lev vi vp vn vc vl X :=
  ⟨ownsRow_kept h.i fun g hg => hk g (h.i.lt g hg).2 (fun e => hf.1 (e ▸ hg)), h.p.kept (fun g hg => hk g (h.rg g hg).2 (fun e => hf.2.2.2.2.2 (e ▸ hg))) (fun g hg => hk g (h.pb.1 g hg) (fun e => hf.2.1 (e ▸ hg))), ownsRow_kept h.n fun g hg => hk g (h.n.lt g hg).2 (fun e => hf.2.2.1 (e ▸ hg)), ownsRow_kept h.c fun g hg => hk g (h.c.lt g hg).2 (fun e => hf.2.2.2.1 (e ▸ hg)), ownsRow_kept h.l fun g hg => hk g (h.l.lt g hg).2 (fun e => hf.2.2.2.2.1 (e ▸ hg)), h.nd, fun g hg => ⟨(h.rg g hg).1, Nat.lt_of_lt_of_le (h.rg g hg).2 hs⟩, h.two, h.off⟩
theorem Und.put2 {lo : Nat} {w : World} {d : Nat} {items : List It} {parts : List Vec} {names cls lev : List ByteArray} {vi vp vn vc vl : Value} {X : List Nat} {b j : Nat} {u : Value} (h : Und lo w d items parts names cls lev vi vp vn vc vl X) (hf : UFree b vi vp vn vc vl X) : Und lo (w.setCell ⟨b, j, none⟩ u) d items parts names cls lev vi vp vn vc vl X :=
  h.but hf (fun g _ hg => Below.heap_setCell _ _ _ _ hg) (by simp)
theorem row_lo {lo base : Nat} {w : World} {el : TypeId} {size n : Nat} {v : Value} {xs : List Value} (h : w.ownsRow base el size v n xs) (hl : lo ≤ base) : w.ownsRow lo el size v n xs := by
  obtain ⟨h1, h2⟩ := h
  refine ⟨h1, h2.imp id ?_⟩
  rintro ⟨g, cap, cur, e, hB, r⟩
  exact ⟨g, cap, cur, e, Nat.le_trans hl hB, r⟩
theorem moved_new {w w' : World} {el : TypeId} {size n : Nat} {v : Value} {xs : List Value} (h : w'.ownsRow w.heap.size el size v n xs) : Moved w (.slice none 0 0) v := by
  cases e : v.ownBlock with
  | none => exact .inl e
  | some g => exact .inr ⟨g, rfl.trans e, (h.lt g e).1⟩
theorem Und.wide {lo : Nat} {w : World} {d : Nat} {items : List It} {parts : List Vec} {names cls lev : List ByteArray} {vi vp vn vc vl : Value} {X : List Nat} {lo' : Nat} (h : Und lo w d items parts names cls lev vi vp vn vc vl X) (hl : lo' ≤ lo) : Und lo' w d items parts names cls lev vi vp vn vc vl X := by
  obtain ⟨vals, Fs, h1, h2, h3, h4, h5⟩ := h.p.ex
  exact ⟨row_lo h.i hl, ⟨vals, Fs, h1, h2, row_lo h3 hl, h4, h5⟩, row_lo h.n hl, row_lo h.c hl, row_lo h.l hl, h.nd, fun g hg => ⟨Nat.le_trans hl (h.rg g hg).1, (h.rg g hg).2⟩, h.two, h.off⟩
theorem ufree_of {w : World} {b : Nat} {v v' : Value} (h : v.ownBlock ≠ some b) (hm : Moved w v v') (hb : b < w.heap.size) : v'.ownBlock ≠ some b := fun e => by
  rcases hm with e1 | ⟨g, e1, hg⟩
  · exact h (e1 ▸ e)
  · rw [e1] at e; have := Option.some.inj e; omega
/-- Own, its names left out. -/
theorem Own.noNames {k : Int} {items : List It} {parts : List Vec} {names cls lev : List ByteArray} {code env : Int} {d lo hi : Nat} {w : World} {c0 c1 c2 c3 c4 c5 c6 c7 : Value} (h : Own (d + 1) (.mk k items parts names cls lev code env) (.agg #[c0, c1, c2, c3, c4, c5, c6, c7]) lo hi w) (a : Option Addr) (c : Nat) : Own (d + 1) (.mk k items parts [] cls lev code env) (.agg #[c0, c1, c2, .slice a 0 c, c4, c5, c6, c7]) lo hi w := by
  obtain ⟨F, ho, hnd, hrg⟩ := h.out
  unfold OwnVec at ho
  obtain ⟨ai, ci, ap, cp, an, cn, ac, cc, al, cl, Fi, Fp, Fn, Fc, Fl, e, rfl, hC, i1, i2, i3, i4, i5⟩ := ho
  simp only [Value.agg.injEq, Array.mk.injEq, List.cons.injEq, and_true] at e
  obtain ⟨rfl, rfl, rfl, rfl, rfl, rfl, rfl, rfl⟩ := e
  refine ⟨Fi ++ (Fp ++ ([] ++ (Fc ++ Fl))), ?_, ?_, ?_⟩
  · unfold OwnVec
    exact ⟨ai, ci, ap, cp, a, c, ac, cc, al, cl, Fi, Fp, [], Fc, Fl, rfl, rfl, ⟨hC.1, hC.2.1, Nat.zero_le _, hC.2.2.2.1, hC.2.2.2.2⟩, i1, .inl ⟨rfl, rfl⟩, i3, i4, i5⟩
  · simp only [List.nodup_append, List.mem_append, List.nil_append] at hnd ⊢
    grind
  · intro g hg
    exact hrg g (by simp only [List.mem_append, List.nil_append] at hg ⊢; grind)
end Go.Proofs.YtddebgmjolojeaaDoor

/- The reference's copies of vectors. -/
namespace Go.Proofs.YtddebgmjolojeaaDoor
set_option maxRecDepth 100000
open Go.RowKit
set_option linter.unusedVariables false
theorem RowV.start0 (w : World) (d : Nat) (parts : List Vec) : RowV w (w.alloc (.cells #[] 31)) d parts 0 (.slice (some ⟨w.heap.size, 0, none⟩) 0 0) :=
  ⟨⟨[], [], rfl, rfl, ⟨rfl, .inr ⟨w.heap.size, 0, #[], rfl, Nat.le_refl _, blk_new w _ rfl, Nat.le_refl _, Nat.zero_le _, rfl, rfl⟩⟩, fun i h => absurd h (Nat.not_lt_zero _), List.nodup_nil, fun b h => by cases h⟩, below1 w _⟩
set_option maxHeartbeats 4000000 in
theorem scpStep (d : Nat) (IC : SCV d) : SCP d := by
  refine ⟨fun parts a cap lo hi w hs hhi hsm hall hn => ?_⟩
  have A := Lib.hid (fun (k : Nat) (w1 : World) (hk : k < parts.length) (hb : Below w.heap.size w w1) => (hs.below hb hhi).at_ hk)
  have C := Lib.hid (fun (k : Nat) (w1 : World) (x : Value) (hk : k < parts.length) (hb : Below w.heap.size w w1) (hv : VecAt lo hi w1 d (parts.getD k noV) x) => IC.out _ x lo hi w1 hv (Nat.le_trans hhi hb.size) (hsm k hk) (hall k hk).2 (by have := (hall k hk).1.flat.parts; omega))
  have L := Lib.hid (fun (k : Nat) (w1 : World) (x : Value) (hk : k < parts.length) (hb : Below w.heap.size w w1) (hv : VecAt lo hi w1 d (parts.getD k noV) x) => show Calls Tryd.prog 58 #[x, .int .i64 3] w1 (fun e w' => e = .returned (.bool true) ∧ Below w1.heap.size w1 w') from ((sIsAll 3 (Nat.le_refl _)).out d _ x lo hi w1 hv (Nat.le_trans hhi hb.size) (hsm k hk)).mono (fun e w' h => by rw [bB_yes (hall k hk).1] at h; exact h))
  have FIN := Lib.hid (fun (wr : World) (v : Value) (h : RowV w wr d parts parts.length v) => h.parts)
  clear hs hsm IC hall
  obtain ⟨n, hn'⟩ : ∃ n, parts.length = n := ⟨_, rfl⟩
  have HNn := Lib.hid hn'
  rw [hn'] at hn A C L FIN ⊢
  clear hn'
  obtain ⟨i0, hi0, hz0, hz1, hz2⟩ := info_parts infoVec8
  go_enter Tryd.func61, Tryd.ntmps61
  go_wp2
  go_loopw [3, 4] (fun v i wr => ∃ k : Nat, k ≤ n ∧ i = .int .i64 k ∧ RowV w wr d parts k v) (fun _ i _ => n - (intOf i).toNat)
  case atStart => exact ⟨0, Nat.zero_le _, rfl, RowV.start0 w d parts⟩
  case round =>
    obtain ⟨k, hk, rfl, hr⟩ := hrel
    have RV := Lib.hid hr
    clear hr
    by_cases hlt : k < n
    · have h40 : k ≤ 40 := by omega
      obtain ⟨b, off, p0, p1, p2, p3, p4, p5, p6, p7, rfl, hbB, hv, c0, c1, c2, c3, c4, c5, c6, c7⟩ := A.out _ _ hlt RV.out.below
      have HV := Lib.hid hv
      clear hv
      go_wp2_with fail
      refine (L.out _ _ _ hlt RV.out.below HV.out).mono ?_
      rintro e wi ⟨rfl, hbi⟩
      have RV := Lib.hid (RV.out.keep hbi)
      clear hbi HV c0 c1 c2 c3 c4 c5 c6 c7 hbB
      obtain ⟨b', off', u0, u1, u2, u3, u4, u5, u6, u7, e', hbB, hv, c0, c1, c2, c3, c4, c5, c6, c7⟩ := A.out _ _ hlt RV.out.below
      simp only [Option.some.injEq, Addr.mk.injEq, and_true] at e'
      obtain ⟨rfl, rfl⟩ := e'
      have HV := Lib.hid hv
      clear hv
      go_wp2_with fail
      refine (C.out _ _ _ hlt RV.out.below HV.out).mono ?_
      rintro e w2 ⟨y, rfl, ho, hb⟩
      obtain ⟨yk, ya1, yn1, ym1, ya2, yn2, ym2, ya3, yn3, ym3, ya4, yn4, ym4, ya5, yn5, ym5, yc, ye, rfl⟩ := ho.agg
      have HO := Lib.hid ho
      have BW := Lib.hid hb
      obtain ⟨xs, hxs⟩ := RV.out.row
      have XS := Lib.hid hxs
      have OR := Lib.hid (ownsRow_below (ownsRow_below hxs BW.out) (below1 w2 (.cells #[.int .i64 yk, .slice ya1 yn1 ym1, .slice ya2 yn2 ym2, .slice ya3 yn3 ym3, .slice ya4 yn4 ym4, .slice ya5 yn5 ym5, .int .i64 yc, .int .i64 ye] 31)))
      have S1 := Lib.hid (show w.heap.size ≤ w2.heap.size from (below_then RV.out.below BW.out).size)
      clear ho hb hxs c0 c1 c2 c3 c4 c5 c6 c7
      go_wp2_with (at_builtin; refine wpList_append_own_at _ rfl _ _ 29 rfl w.heap.size 31 i0 _ 8 144 Tryd.underlying29 hi0 hz0 hz1 hz2 rfl (by decide) _ k xs rfl OR.out ⟨w2.heap.size, 0, none⟩ 1 1 [.int .i64 yk, .slice ya1 yn1 ym1, .slice ya2 yn2 ym2, .slice ya3 yn3 ym3, .slice ya4 yn4 ym4, .slice ya5 yn5 ym5, .int .i64 yc, .int .i64 ye] rfl rfl ?c1 ?c2 ?c3 ?c4 ?c5 ?_)
      case c1 =>
        intro j u hj
        have hlt : j < 8 := by have := (List.getElem?_eq_some_iff.1 hj).1; simpa using this
        rw [addr_add, Nat.zero_add]
        refine cellOf (blk_new w2 _ rfl) ?_
        rw [← hj]
        rcases (show j = 0 ∨ j = 1 ∨ j = 2 ∨ j = 3 ∨ j = 4 ∨ j = 5 ∨ j = 6 ∨ j = 7 by omega) with rfl | rfl | rfl | rfl | rfl | rfl | rfl | rfl <;> rfl
      case c2 => intro u hu; simp only [List.mem_cons, List.not_mem_nil, or_false] at hu; rcases hu with rfl | rfl | rfl | rfl | rfl | rfl | rfl | rfl <;> rfl
      case c3 => unfold maxLen; omega
      case c4 => omega
      case c5 => have := S1.out; simp; omega
      intro v' w3 hown' hgrow _ hwh
      have NX := Lib.hid (RV.out.next HO.out (by simp) BW.out hgrow (fun ys hy => ownsRow_same XS.out hy ▸ hown') (by simpa using hwh))
      clear hown' hgrow hwh
      go_wp2
      go_roundw
      case rel => exact ⟨k + 1, by omega, by go_num, NX.out⟩
      case measure => simp [intOf]; omega
    · obtain rfl : k = n := by omega
      go_wp2
      obtain ⟨F, h1, h2, h3⟩ := FIN.out _ _ RV.out
      go_ret
      exact ⟨_, F, rfl, h1, h2, h3, RV.out.below, by rw [HNn.out]; exact RV.out.row⟩
theorem scvZero : SCV 0 := ⟨fun _ _ _ _ _ h => h.elim⟩
theorem scvAll : ∀ d, SCV d
  | 0 => scvZero
  | d + 1 => scvStep d (scpStep d (scvAll d))
theorem scpAll (d : Nat) : SCP d := scpStep d (scvAll d)
end Go.Proofs.YtddebgmjolojeaaDoor

/- Parts appended to a vector under way; all parts of a valid vector, however deep, are vectors. -/
namespace Go.Proofs.YtddebgmjolojeaaDoor
open Go.RowKit
set_option maxRecDepth 100000
set_option linter.unusedVariables false

theorem isV_up : ∀ (n : Nat) (v : Vec), IsV n v → IsV (n + 1) v
  | 0, v, h => ⟨h.1, fun i hi => by have := h.2; omega⟩
  | n + 1, v, h => ⟨h.1, fun i hi => isV_up n _ (h.2 i hi)⟩
theorem isV_three {n : Nat} {v : Vec} (hn : n ≤ 3) (h : IsV n v) : IsV 3 v := by
  rcases (show n = 0 ∨ n = 1 ∨ n = 2 ∨ n = 3 by omega) with rfl | rfl | rfl | rfl
  · exact isV_up _ _ (isV_up _ _ (isV_up _ _ h))
  · exact isV_up _ _ (isV_up _ _ h)
  · exact isV_up _ _ h
  · exact h
theorem allIs_of : ∀ (d n : Nat) (v : Vec), n ≤ 3 → IsV n v → AllIs d v
  | 0, _, _, _, _ => trivial
  | d + 1, 0, v, _, h => fun i hi => by have := h.2; omega
  | d + 1, n + 1, v, hn, h => fun i hi => ⟨isV_three (by omega) (h.2 i hi), allIs_of d n _ (by omega) (h.2 i hi)⟩
theorem part_is {v : Vec} (h : IsV 3 v) (d i : Nat) (hi : i < (partsV v).length) : AllIs d ((partsV v).getD i noV) ∧ (partsV ((partsV v).getD i noV)).length ≤ 41 ∧ IsV 2 ((partsV v).getD i noV) := by
  have h2 := h.2 i hi
  exact ⟨allIs_of d 2 _ (by omega) h2, by have := h2.flat.parts; omega, h2⟩
theorem RowX.snocX {lo : Nat} {w w' : World} {d : Nat} {parts : List Vec} {v' : Value} {F : List Nat} {p : Vec} {c0 c1 c2 c3 c4 c5 c6 c7 : Value} {vals : List Value} {Fs : List (List Nat)} (h1 : vals.length = parts.length) (h2 : Fs.length = parts.length)
    (h4 : ∀ i, i < parts.length → OwnVec w d (parts.getD i noV) (vals.getD i undef) (Fs.getD i [])) (ho : OwnVec w' d p (.agg #[c0, c1, c2, c3, c4, c5, c6, c7]) F)
    (hr : w'.ownsRow lo 31 8 v' (parts.length + 1) (vals.flatMap cl8 ++ [c0, c1, c2, c3, c4, c5, c6, c7])) (hX : ∀ g ∈ Fs.flatten, w'.heap[g]? = w.heap[g]?) : RowX lo w' d (parts ++ [p]) v' (Fs.flatten ++ F) := by
  have hl : (parts ++ [p]).length = parts.length + 1 := by simp
  refine ⟨vals ++ [Value.agg #[c0, c1, c2, c3, c4, c5, c6, c7]], Fs ++ [F], by simp [h1], by simp [h2], ?_, fun i hi => ?_, by simp⟩
  · rw [hl, List.flatMap_append]
    exact hr
  · rw [hl] at hi
    by_cases e : i = parts.length
    · subst e
      have e0 : (parts ++ [p]).getD parts.length noV = p := by rw [List.getD_eq_getElem?_getD, List.getElem?_append_right (by omega)]; simp
      have e1 : (vals ++ [Value.agg #[c0, c1, c2, c3, c4, c5, c6, c7]]).getD parts.length undef = .agg #[c0, c1, c2, c3, c4, c5, c6, c7] := by rw [List.getD_eq_getElem?_getD, List.getElem?_append_right (by omega)]; simp [h1]
      have e2 : (Fs ++ [F]).getD parts.length [] = F := by rw [List.getD_eq_getElem?_getD, List.getElem?_append_right (by omega)]; simp [h2]
      rw [e0, e1, e2]
      exact ho
    · have e0 : (parts ++ [p]).getD i noV = parts.getD i noV := by rw [List.getD_eq_getElem?_getD, List.getD_eq_getElem?_getD, List.getElem?_append_left (by omega)]
      have e1 : (vals ++ [Value.agg #[c0, c1, c2, c3, c4, c5, c6, c7]]).getD i undef = vals.getD i undef := by rw [List.getD_eq_getElem?_getD, List.getD_eq_getElem?_getD, List.getElem?_append_left (by omega)]
      have e2 : (Fs ++ [F]).getD i [] = Fs.getD i [] := by rw [List.getD_eq_getElem?_getD, List.getD_eq_getElem?_getD, List.getElem?_append_left (by omega)]
      rw [e0, e1, e2]
      exact (h4 i (by omega)).kept _ _ _ _ (fun b hb => hX b (mem_flat (by omega) hb))
theorem Und.snocP {lo : Nat} {w0 w1 w2 : World} {d : Nat} {items : List It} {parts : List Vec} {names cls lev : List ByteArray} {vi vp vn vc vl v' : Value} {X : List Nat} {p : Vec} {c0 c1 c2 c3 c4 c5 c6 c7 : Value} {vals : List Value} {Fs : List (List Nat)} (h : Und lo w0 d items parts names cls lev vi vp vn vc vl X) (hb : Below w0.heap.size w0 w1)
    (h1 : vals.length = parts.length) (h2 : Fs.length = parts.length) (h4 : ∀ i, i < parts.length → OwnVec w1 d (parts.getD i noV) (vals.getD i undef) (Fs.getD i [])) (h5 : Fs.flatten = X) (ho : Own d p (.agg #[c0, c1, c2, c3, c4, c5, c6, c7]) w0.heap.size w1.heap.size w1)
    (hr : w2.ownsRow lo 31 8 v' (parts.length + 1) (vals.flatMap cl8 ++ [c0, c1, c2, c3, c4, c5, c6, c7])) (hm : Moved w1 vp v') (hG : ∀ g, lo ≤ g → g < w1.heap.size → vp.ownBlock ≠ some g → w2.heap[g]? = w1.heap[g]?) (hs : w1.heap.size ≤ w2.heap.size) (hlo : lo ≤ w0.heap.size) :
    ∃ X', Und lo w2 d items (parts ++ [p]) names cls lev vi v' vn vc vl X' := by
  subst h5
  obtain ⟨F, ho1, ho2, ho3⟩ := ho.out
  have hpb := h.pb
  have h01 := hb.size
  have hF : ∀ g ∈ F, vp.ownBlock ≠ some g := fun g hg e => by have := hpb.1 g e; have := ho3 g hg; omega
  have hXk : ∀ g ∈ Fs.flatten, w2.heap[g]? = w1.heap[g]? := fun g hg => by
    have hr := h.rg g hg
    exact hG g hr.1 (by omega) (fun e => h.off.2.1 g e hg)
  have hR := RowX.snocX h1 h2 h4 (ho1.kept _ _ _ _ (fun g hg => by have := ho3 g hg; exact hG g (by omega) (by omega) (hF g hg))) hr hXk
  have hm0 : Moved w0 vp v' := by
    rcases hm with e | ⟨g, e, hg⟩
    · exact .inl e
    · exact .inr ⟨g, e, by omega⟩
  refine ⟨Fs.flatten ++ F, h.setP hR hm0 (fun g hg hlt hne => (hG g hg (by omega) hne).trans (hb.block g hlt)) (by omega) ?_ (fun g hg => ?_) hlo ?_⟩
  · rw [List.nodup_append]
    refine ⟨h.nd, ho2, fun a ha b hb' e => ?_⟩
    have := (h.rg a ha).2
    have := (ho3 b hb').1
    omega
  · rcases List.mem_append.1 hg with h' | h'
    · have := (h.rg g h').2; exact ⟨.inl h', by omega⟩
    · have := ho3 g h'; exact ⟨.inr this.1, by omega⟩
  · intro g hg hx
    rcases hm with e | ⟨g', e, hge⟩
    · rcases List.mem_append.1 hx with h' | h'
      · exact h.off.2.1 g (e ▸ hg) h'
      · exact hF g h' (e ▸ hg)
    · rw [e] at hg
      obtain rfl := Option.some.inj hg
      rcases List.mem_append.1 hx with h' | h'
      · have := (h.rg _ h').2; omega
      · have := (ho3 _ h').2; omega
section
variable {ops : Array Oper} {Q : Exit → Act → World → Prop} {S : World → Prop} {w0 : World} {L : List (Nat × TypeId × Array Value)}
variable {r : List (Nat × Bool)} {a : Act} {e : List (Nat × Value)} {w : World} {i d : Nat} {g : Option (Nat × Bool)} {v : Value}
theorem run_idx8 {x y : Operand} {b off n c k : Nat} (ho : opAt ops i = some (some d, .indexAddr 29 x y, g)) (hd : Nat.blt d a.tmps.size = true) (hw : wantE ops a e g = some true)
    (hx : lookO a e x = .slice (some ⟨b, off, none⟩) n c) (hy : lookO a e y = .int .i64 (k : Int)) (hk : k < n)
    (h : RunE Tryd.prog ops Q S r a ((d, .pointer (some ⟨b, off + k * 8, none⟩)) :: e) w) : RunE Tryd.prog ops Q S ((i, true) :: r) a e w :=
  run_yield ho hd hw (fun o w' h1 _ => by
    unfold execOp; rw [h1]; simp only [hx, hy]
    refine run_v ?_
    obtain ⟨ie, hie, _, hsz, _⟩ := info_parts infoVec8
    have he : Tryd.prog.elem 29 = 31 := by kernel_rfl
    rw [← he] at hie
    rw [run_indexAt_slice (h := Tryd.underlying29), if_pos ⟨Int.natCast_nonneg k, by omega⟩]
    simp [sizeOf, typeInfo, hie, hsz, addr_add]) h
/-- A vector that lay there at the outset, among others. -/
theorem runC_oldV {x : Operand} {b j : Nat} {c0 c1 c2 c3 c4 c5 c6 c7 : Value} (ho : opAt ops i = some (some d, .load 31 x, g)) (hd : Nat.blt d a.tmps.size = true) (hw : wantE ops a e g = some true)
    (hx : lookO a e x = .pointer (some ⟨b, j, none⟩)) (hb : b < w0.heap.size) (h0 : w0.cell? ⟨b, j, none⟩ = some c0) (h1 : w0.cell? ⟨b, j + 1, none⟩ = some c1) (h2 : w0.cell? ⟨b, j + 2, none⟩ = some c2) (h3 : w0.cell? ⟨b, j + 3, none⟩ = some c3) (h4 : w0.cell? ⟨b, j + 4, none⟩ = some c4) (h5 : w0.cell? ⟨b, j + 5, none⟩ = some c5) (h6 : w0.cell? ⟨b, j + 6, none⟩ = some c6) (h7 : w0.cell? ⟨b, j + 7, none⟩ = some c7)
    (h : RunE Tryd.prog ops Q (fun w' => HeldC w0 w' L) r a ((d, .agg #[c0, c1, c2, c3, c4, c5, c6, c7]) :: e) w) : RunE Tryd.prog ops Q (fun w' => HeldC w0 w' L) ((i, true) :: r) a e w :=
  run_load ho hd hw hx (fun w' hS => run_loadVar_mid w' b j 31 [c0, c1, c2, c3, c4, c5, c6, c7] _ (fun k v hv => by
    have hlt : k < 8 := by have := (List.getElem?_eq_some_iff.1 hv).1; simpa using this
    rw [hS.1.cell (p := ⟨b, j + k, none⟩) hb, ← hv]
    rcases (show k = 0 ∨ k = 1 ∨ k = 2 ∨ k = 3 ∨ k = 4 ∨ k = 5 ∨ k = 6 ∨ k = 7 by omega) with rfl | rfl | rfl | rfl | rfl | rfl | rfl | rfl
    · exact h0
    · exact h1
    · exact h2
    · exact h3
    · exact h4
    · exact h5
    · exact h6
    · exact h7) Tryd.underlying31 rfl infoVec) h
end
end Go.Proofs.YtddebgmjolojeaaDoor

/- The end of a region that appends one element to a field, and where the new slice lies. -/
namespace Go.Proofs.YtddebgmjolojeaaDoor
open Go.RowKit
set_option maxRecDepth 100000
set_option linter.unusedVariables false

section
variable {P : Program} {ops : Array Oper} {Q : Exit → Act → World → Prop} {S : World → Prop}
variable {r : List (Nat × Bool)} {a : Act} {e : List (Nat × Value)} {w : World} {i d : Nat} {g : Option (Nat × Bool)} {v : Value}
/-- An append onto a row of the call's own, and where the new slice lies. -/
theorem run_appAt {t el : TypeId} {x y : Operand} {v0 : Value} (ho : opAt ops i = some (some d, .call { callee := .builtin .append, args := [x, y].toArray, argTypes := [t, t].toArray }, g)) (hd : Nat.blt d a.tmps.size = true) (hw : wantE ops a e g = some true)
    (hx : lookO a e x = v0) (ad : Addr) (m c : Nat) (hy : lookO a e y = .slice (some ad) m c)
    (base : Nat) (ie : TypeInfo) (z : Value) (size bytes : Nat) (ht : P.underlying t = some (.slice el)) (hi : P.info? el = some ie) (hz : ie.zero = some z) (hsize : ie.size = size) (hby : ie.bytes = bytes) (hzs : z.cells.size = size) (hsz : 0 < size)
    (n : Nat) (xs : List Value) (hown : w.ownsRow base el size v0 n xs) (news : List Value) (hl : news.length = m * size) (hnews : ∀ j u, news[j]? = some u → w.cell? (ad.add j) = some u) (h1 : ∀ u ∈ news, u.oneCell' = true)
    (h63 : n + m ≤ maxLen) (hbytes : (n + m) * bytes ≤ 140737488355328) (hbase : base ≤ w.heap.size)
    (h : ∀ v' w', w'.ownsRow base el size v' (n + m) (xs ++ news) → w.grownBy w' v0.ownBlock → (v'.ownBlock = v0.ownBlock ∨ v'.ownBlock = some w.heap.size) → S w' ∧ RunE P ops Q S r a ((d, v') :: e) w') : RunE P ops Q S ((i, false) :: r) a e w := by
  refine ⟨fun hk => ?_⟩
  obtain ⟨o, hi', k1, k2, k3⟩ := opAt_spec ho
  show wpOp P ops Q i (fun a' w' => (lastK ops i = true ∨ S w') ∧ seqH P ops Q S r a' w') (putAll a e) w
  unfold wpOp
  simp only [hi', if_pos (wantE_spec hk (by rw [k3]; exact hw))]
  left
  unfold Oper.wp
  rw [eval_putAll a e hk]
  obtain ⟨v', w', hr, h2, h3, _, h4⟩ := run_append_own_at (P := P) w base t o.type el ie z size bytes ht hi hz hsize hby hzs hsz v0 n xs hown ad m c news hl hnews h1 h63 hbytes hbase
  obtain ⟨hS, hR⟩ := h v' w' h2 h3 h4
  unfold execOp
  simp only [k2, resolve, invoke, builtin, Sem.run_bind, Sem.run_pure, Result.andThen_ok, List.map_toArray, List.map_cons, List.map_nil, hx, hy, hr]
  simp only [Oper.upon]
  rw [k1]
  exact ⟨.inr hS, hR.out (keysIn_cons hd hk)⟩
end
theorem store_strs {w : World} {p : Addr} {s : Option Addr} {n c : Nat} (h : ∃ x, w.cell? p = some x) (hf : w.frozen? p = false) : (Instr.storeAt 24 (.pointer (some p)) (.slice s n c)).run Tryd.prog w = .ok () (w.setCell p (.slice s n c)) := by
  obtain ⟨x, hx⟩ := h
  simp [Instr.storeAt, go_sem, hx, hf]
theorem store_vecs {w : World} {p : Addr} {s : Option Addr} {n c : Nat} (h : ∃ x, w.cell? p = some x) (hf : w.frozen? p = false) : (Instr.storeAt 29 (.pointer (some p)) (.slice s n c)).run Tryd.prog w = .ok () (w.setCell p (.slice s n c)) := by
  obtain ⟨x, hx⟩ := h
  simp [Instr.storeAt, go_sem, hx, hf]
theorem fill_txt (z : ByteArray) : Instr.fill (fun i => some (i * 1, 1)) ((Array.range (1 * 1)).map ((Value.string ⟨#[]⟩).cells[· % (Value.string ⟨#[]⟩).cells.size]!)) [(0, .string z)] = some #[.string z] := by
  have h := Great.fill_whole (s := 1) (by decide) [.string z] ((Array.range (1 * 1)).map ((Value.string ⟨#[]⟩).cells[· % (Value.string ⟨#[]⟩).cells.size]!)) (fun v hv => by obtain rfl := List.mem_singleton.1 hv; rfl) (by simp)
  exact h
theorem fill_vec (c0 c1 c2 c3 c4 c5 c6 c7 : Value) : Instr.fill (fun i => some (i * 8, 8)) ((Array.range (1 * 8)).map ((Value.agg #[.int .i64 0, .slice none 0 0, .slice none 0 0, .slice none 0 0, .slice none 0 0, .slice none 0 0, .int .i64 0, .int .i64 0]).cells[· % (Value.agg #[.int .i64 0, .slice none 0 0, .slice none 0 0, .slice none 0 0, .slice none 0 0, .slice none 0 0, .int .i64 0, .int .i64 0]).cells.size]!)) [(0, .agg #[c0, c1, c2, c3, c4, c5, c6, c7])] = some #[c0, c1, c2, c3, c4, c5, c6, c7] := by
  have h := Great.fill_whole (s := 8) (by decide) [.agg #[c0, c1, c2, c3, c4, c5, c6, c7]] ((Array.range (1 * 8)).map ((Value.agg #[.int .i64 0, .slice none 0 0, .slice none 0 0, .slice none 0 0, .slice none 0 0, .slice none 0 0, .int .i64 0, .int .i64 0]).cells[· % (Value.agg #[.int .i64 0, .slice none 0 0, .slice none 0 0, .slice none 0 0, .slice none 0 0, .slice none 0 0, .int .i64 0, .int .i64 0]).cells.size]!)) (fun v hv => by obtain rfl := List.mem_singleton.1 hv; rfl) (by simp)
  exact h
theorem tail_its3 {ops : Array Oper} {Q : Exit → Act → World → Prop} {a : Act} {e : List (Nat × Value)} {w0 w1 : World} {L : List (Nat × TypeId × Array Value)} {i1 i2 i3 i4 d1 d2 d4 b j base : Nat} {x s p : Operand} {v0 c : Value} {C : Array Value} {tt : TypeId} (z : It) {l : List It}
    (ho1 : opAt ops i1 = some (some d1, .buildSlice 28 1 #[(0, x)], none)) (hd1 : Nat.blt d1 a.tmps.size = true) (hx : lookO a e x = .agg #[.int .i64 z.n, .int .i64 z.d, .string z.t])
    (ho2 : opAt ops i2 = some (some d2, .call { callee := .builtin .append, args := [s, .tmp d1].toArray, argTypes := [28, 28].toArray }, none)) (hd2 : Nat.blt d2 a.tmps.size = true) (hs : ∀ u, lookO a ((d1, u) :: e) s = v0)
    (ho4 : opAt ops i4 = some (some d4, .fieldAddr 31 p j, none)) (hd4 : Nat.blt d4 a.tmps.size = true) (hf : Nat.blt j 8 = true) (hp : ∀ u u', lookO a ((d2, u') :: (d1, u) :: e) p = .pointer (some ⟨b, 0, none⟩))
    (ho3 : opAt ops i3 = some (none, .store 28 (.tmp d4) (.tmp d2), none)) (hl : lastK ops i3 = true) (hne : Nat.beq d4 d2 = false)
    (H : HeldC w0 w1 L) (hown : w1.ownsRow base 67 3 v0 l.length (itCells l)) (hn : l.length ≤ 1048576) (hbase : base ≤ w1.heap.size) (hw0 : w0.heap.size ≤ base) (m : (b, tt, C) ∈ L) (hj : C[j]? = some c) (hb : b < base) (hb0 : w0.heap.size ≤ b)
    (hL : ∀ q ∈ L, ∀ k, v0.ownBlock = some k → q.1 ≠ k)
    (h : ∀ v' W, (∃ sa n c, v' = .slice sa n c) → W.heap[b]? = some (.cells (C.setIfInBounds j v') tt (0, 0)) → W.ownsRow base 67 3 v' (l ++ [z]).length (itCells (l ++ [z])) → Below w0.heap.size w0 W → w1.heap.size ≤ W.heap.size →
      Moved w1 v0 v' → (∀ g, g < w1.heap.size → g ≠ b → v0.ownBlock ≠ some g → W.heap[g]? = w1.heap[g]?) → Q .normal (putAll a ((d4, .pointer (some ⟨b, j, none⟩)) :: (d2, v') :: (d1, .slice (some ⟨w1.heap.size, 0, none⟩) 1 1) :: e)) W) :
    RunE Tryd.prog ops Q (fun w' => HeldC w0 w' L) [(i1, false), (i2, false), (i4, true), (i3, false)] a e w1 := by
  obtain ⟨ie, hie, hz, hsz, hby⟩ := info_parts infoItm3
  obtain ⟨W1, hW1⟩ : ∃ W, w1.alloc (.cells #[.int .i64 z.n, .int .i64 z.d, .string z.t] 67) = W := ⟨_, rfl⟩
  have H1 : HeldC w0 W1 L := hW1 ▸ heldC_alloc H _
  have hK : W1.heap[w1.heap.size]? = some (.cells #[.int .i64 z.n, .int .i64 z.d, .string z.t] 67 (0, 0)) := hW1 ▸ blk_new w1 _ rfl
  have hO : W1.ownsRow base 67 3 v0 l.length (itCells l) := hW1 ▸ ownsRow_below hown (below1 w1 _)
  have hS1 : w1.heap.size + 1 = W1.heap.size := by rw [← hW1]; simp
  have hE : ∀ g, g < w1.heap.size → W1.heap[g]? = w1.heap[g]? := fun g hg => hW1 ▸ (below1 w1 _).block g hg
  refine run_build ho1 hd1 rfl hx Tryd.underlying28 hie hz (by rw [hsz]; decide) (by rw [hsz]; decide) (by rw [hsz]; exact fill_item z) (by rw [hW1]; exact H1) ?_
  rw [hW1]
  refine run_appAt ho2 hd2 rfl (hs _) ⟨w1.heap.size, 0, none⟩ 1 1 (look_new _ _) base ie _ 3 32 Tryd.underlying28 hie hz hsz hby rfl (by decide) (l.length) (itCells l) hO [.int .i64 z.n, .int .i64 z.d, .string z.t] rfl (fun q u hq => ?_) (fun u hu => ?_) (by unfold maxLen; omega) (by omega) (by omega) (fun v' W2 hO2 hg2 hwh => ?_)
  · rw [addr_add, Nat.zero_add]
    refine cellOf hK ?_
    rw [← hq]
    have hlt : q < 3 := by have := (List.getElem?_eq_some_iff.1 hq).1; simpa using this
    rcases (show q = 0 ∨ q = 1 ∨ q = 2 by omega) with rfl | rfl | rfl <;> rfl
  · simp only [List.mem_cons, List.not_mem_nil, or_false] at hu
    rcases hu with rfl | rfl | rfl <;> rfl
  have H2 : HeldC w0 W2 L := heldC_grown H1 hg2 (fun k hk => ⟨by have := (hO.lt k hk).1; omega, fun q hq => hL q hq k hk⟩)
  have hv : ∃ sa n c, v' = .slice sa n c := by
    obtain ⟨_, h | ⟨g, cap, cur, e, _⟩⟩ := hO2
    · exact ⟨_, _, _, h.1⟩
    · exact ⟨_, _, _, e⟩
  obtain ⟨sa, n, c', rfl⟩ := hv
  refine ⟨H2, runC_partV hf ho4 hd4 rfl (hp _ _) (run_last_field hl ho3 rfl store_its (look_new _ _) (look_next hne) (heldC_at H2 m) hj (fun W3 hW3 => run_done (h _ W3 ⟨_, _, _, rfl⟩ ?_ ?_ ?_ ?_ ?_ ?_)))⟩
  · subst hW3; exact Joins.block_setCell (heldC_at H2 m) _
  · subst hW3; have h5 := ownsRow_set (j := j) (u := .slice sa n c') hO2 hb; rw [show (l ++ [z]).length = l.length + 1 by simp, itCells_app]; exact h5
  · subst hW3; exact H2.1.setCell (p := ⟨b, j, none⟩) hb0 _
  · subst hW3; have := hg2.size; simp; omega
  · rcases hwh with e | e
    · exact .inl e
    · exact .inr ⟨_, e, by omega⟩
  · intro g hg hne hk; subst hW3; rw [Below.heap_setCell _ _ _ _ hne, hg2.block g (by omega) (fun e => hk (by rw [← e])), hE g hg]
theorem tail_txs3 {ops : Array Oper} {Q : Exit → Act → World → Prop} {a : Act} {e : List (Nat × Value)} {w0 w1 : World} {L : List (Nat × TypeId × Array Value)} {i1 i2 i3 i4 d1 d2 d4 b j base : Nat} {x s p : Operand} {v0 c : Value} {C : Array Value} {tt : TypeId} (z : ByteArray) {l : List ByteArray}
    (ho1 : opAt ops i1 = some (some d1, .buildSlice 24 1 #[(0, x)], none)) (hd1 : Nat.blt d1 a.tmps.size = true) (hx : lookO a e x = .string z)
    (ho2 : opAt ops i2 = some (some d2, .call { callee := .builtin .append, args := [s, .tmp d1].toArray, argTypes := [24, 24].toArray }, none)) (hd2 : Nat.blt d2 a.tmps.size = true) (hs : ∀ u, lookO a ((d1, u) :: e) s = v0)
    (ho4 : opAt ops i4 = some (some d4, .fieldAddr 31 p j, none)) (hd4 : Nat.blt d4 a.tmps.size = true) (hf : Nat.blt j 8 = true) (hp : ∀ u u', lookO a ((d2, u') :: (d1, u) :: e) p = .pointer (some ⟨b, 0, none⟩))
    (ho3 : opAt ops i3 = some (none, .store 24 (.tmp d4) (.tmp d2), none)) (hl : lastK ops i3 = true) (hne : Nat.beq d4 d2 = false)
    (H : HeldC w0 w1 L) (hown : w1.ownsRow base 9 1 v0 l.length (l.map Value.string)) (hn : l.length ≤ 1048576) (hbase : base ≤ w1.heap.size) (hw0 : w0.heap.size ≤ base) (m : (b, tt, C) ∈ L) (hj : C[j]? = some c) (hb : b < base) (hb0 : w0.heap.size ≤ b)
    (hL : ∀ q ∈ L, ∀ k, v0.ownBlock = some k → q.1 ≠ k)
    (h : ∀ v' W, (∃ sa n c, v' = .slice sa n c) → W.heap[b]? = some (.cells (C.setIfInBounds j v') tt (0, 0)) → W.ownsRow base 9 1 v' (l ++ [z]).length ((l ++ [z]).map Value.string) → Below w0.heap.size w0 W → w1.heap.size ≤ W.heap.size →
      Moved w1 v0 v' → (∀ g, g < w1.heap.size → g ≠ b → v0.ownBlock ≠ some g → W.heap[g]? = w1.heap[g]?) → Q .normal (putAll a ((d4, .pointer (some ⟨b, j, none⟩)) :: (d2, v') :: (d1, .slice (some ⟨w1.heap.size, 0, none⟩) 1 1) :: e)) W) :
    RunE Tryd.prog ops Q (fun w' => HeldC w0 w' L) [(i1, false), (i2, false), (i4, true), (i3, false)] a e w1 := by
  obtain ⟨ie, hie, hz, hsz, hby⟩ := info_parts infoStr
  obtain ⟨W1, hW1⟩ : ∃ W, w1.alloc (.cells #[.string z] 9) = W := ⟨_, rfl⟩
  have H1 : HeldC w0 W1 L := hW1 ▸ heldC_alloc H _
  have hK : W1.heap[w1.heap.size]? = some (.cells #[.string z] 9 (0, 0)) := hW1 ▸ blk_new w1 _ rfl
  have hO : W1.ownsRow base 9 1 v0 l.length (l.map Value.string) := hW1 ▸ ownsRow_below hown (below1 w1 _)
  have hS1 : w1.heap.size + 1 = W1.heap.size := by rw [← hW1]; simp
  have hE : ∀ g, g < w1.heap.size → W1.heap[g]? = w1.heap[g]? := fun g hg => hW1 ▸ (below1 w1 _).block g hg
  refine run_build ho1 hd1 rfl hx Tryd.underlying24 hie hz (by rw [hsz]; decide) (by rw [hsz]; decide) (by rw [hsz]; exact fill_txt z) (by rw [hW1]; exact H1) ?_
  rw [hW1]
  refine run_appAt ho2 hd2 rfl (hs _) ⟨w1.heap.size, 0, none⟩ 1 1 (look_new _ _) base ie _ 1 16 Tryd.underlying24 hie hz hsz hby rfl (by decide) (l.length) (l.map Value.string) hO [.string z] rfl (fun q u hq => ?_) (fun u hu => ?_) (by unfold maxLen; omega) (by omega) (by omega) (fun v' W2 hO2 hg2 hwh => ?_)
  · rw [addr_add, Nat.zero_add]
    refine cellOf hK ?_
    rw [← hq]
    have hlt : q < 1 := by have := (List.getElem?_eq_some_iff.1 hq).1; simpa using this
    obtain rfl : q = 0 := by omega
    rfl
  · simp only [List.mem_cons, List.not_mem_nil, or_false] at hu
    rcases hu with rfl <;> rfl
  have H2 : HeldC w0 W2 L := heldC_grown H1 hg2 (fun k hk => ⟨by have := (hO.lt k hk).1; omega, fun q hq => hL q hq k hk⟩)
  have hv : ∃ sa n c, v' = .slice sa n c := by
    obtain ⟨_, h | ⟨g, cap, cur, e, _⟩⟩ := hO2
    · exact ⟨_, _, _, h.1⟩
    · exact ⟨_, _, _, e⟩
  obtain ⟨sa, n, c', rfl⟩ := hv
  refine ⟨H2, runC_partV hf ho4 hd4 rfl (hp _ _) (run_last_field hl ho3 rfl store_strs (look_new _ _) (look_next hne) (heldC_at H2 m) hj (fun W3 hW3 => run_done (h _ W3 ⟨_, _, _, rfl⟩ ?_ ?_ ?_ ?_ ?_ ?_)))⟩
  · subst hW3; exact Joins.block_setCell (heldC_at H2 m) _
  · subst hW3; have h5 := ownsRow_set (j := j) (u := .slice sa n c') hO2 hb; rw [show (l ++ [z]).length = l.length + 1 by simp, List.map_append]; exact h5
  · subst hW3; exact H2.1.setCell (p := ⟨b, j, none⟩) hb0 _
  · subst hW3; have := hg2.size; simp; omega
  · rcases hwh with e | e
    · exact .inl e
    · exact .inr ⟨_, e, by omega⟩
  · intro g hg hne hk; subst hW3; rw [Below.heap_setCell _ _ _ _ hne, hg2.block g (by omega) (fun e => hk (by rw [← e])), hE g hg]
theorem tail_vec3 {ops : Array Oper} {Q : Exit → Act → World → Prop} {a : Act} {e : List (Nat × Value)} {w0 w1 : World} {L : List (Nat × TypeId × Array Value)} {i1 i2 i3 i4 d1 d2 d4 b j base : Nat} {x s p : Operand} {v0 c : Value} {C : Array Value} {tt : TypeId} {c0 c1 c2 c3 c4 c5 c6 c7 : Value} (HC : ∀ u ∈ [c0, c1, c2, c3, c4, c5, c6, c7], u.oneCell' = true) {n : Nat} {xs : List Value}
    (ho1 : opAt ops i1 = some (some d1, .buildSlice 29 1 #[(0, x)], none)) (hd1 : Nat.blt d1 a.tmps.size = true) (hx : lookO a e x = .agg #[c0, c1, c2, c3, c4, c5, c6, c7])
    (ho2 : opAt ops i2 = some (some d2, .call { callee := .builtin .append, args := [s, .tmp d1].toArray, argTypes := [29, 29].toArray }, none)) (hd2 : Nat.blt d2 a.tmps.size = true) (hs : ∀ u, lookO a ((d1, u) :: e) s = v0)
    (ho4 : opAt ops i4 = some (some d4, .fieldAddr 31 p j, none)) (hd4 : Nat.blt d4 a.tmps.size = true) (hf : Nat.blt j 8 = true) (hp : ∀ u u', lookO a ((d2, u') :: (d1, u) :: e) p = .pointer (some ⟨b, 0, none⟩))
    (ho3 : opAt ops i3 = some (none, .store 29 (.tmp d4) (.tmp d2), none)) (hl : lastK ops i3 = true) (hne : Nat.beq d4 d2 = false)
    (H : HeldC w0 w1 L) (hown : w1.ownsRow base 31 8 v0 n (xs)) (hn : n ≤ 1048576) (hbase : base ≤ w1.heap.size) (hw0 : w0.heap.size ≤ base) (m : (b, tt, C) ∈ L) (hj : C[j]? = some c) (hb : b < base) (hb0 : w0.heap.size ≤ b)
    (hL : ∀ q ∈ L, ∀ k, v0.ownBlock = some k → q.1 ≠ k)
    (h : ∀ v' W, (∃ sa n c, v' = .slice sa n c) → W.heap[b]? = some (.cells (C.setIfInBounds j v') tt (0, 0)) → W.ownsRow base 31 8 v' (n + 1) (xs ++ [c0, c1, c2, c3, c4, c5, c6, c7]) → Below w0.heap.size w0 W → w1.heap.size ≤ W.heap.size →
      Moved w1 v0 v' → (∀ g, g < w1.heap.size → g ≠ b → v0.ownBlock ≠ some g → W.heap[g]? = w1.heap[g]?) → Q .normal (putAll a ((d4, .pointer (some ⟨b, j, none⟩)) :: (d2, v') :: (d1, .slice (some ⟨w1.heap.size, 0, none⟩) 1 1) :: e)) W) :
    RunE Tryd.prog ops Q (fun w' => HeldC w0 w' L) [(i1, false), (i2, false), (i4, true), (i3, false)] a e w1 := by
  obtain ⟨ie, hie, hz, hsz, hby⟩ := info_parts infoVec8
  obtain ⟨W1, hW1⟩ : ∃ W, w1.alloc (.cells #[c0, c1, c2, c3, c4, c5, c6, c7] 31) = W := ⟨_, rfl⟩
  have H1 : HeldC w0 W1 L := hW1 ▸ heldC_alloc H _
  have hK : W1.heap[w1.heap.size]? = some (.cells #[c0, c1, c2, c3, c4, c5, c6, c7] 31 (0, 0)) := hW1 ▸ blk_new w1 _ rfl
  have hO : W1.ownsRow base 31 8 v0 n (xs) := hW1 ▸ ownsRow_below hown (below1 w1 _)
  have hS1 : w1.heap.size + 1 = W1.heap.size := by rw [← hW1]; simp
  have hE : ∀ g, g < w1.heap.size → W1.heap[g]? = w1.heap[g]? := fun g hg => hW1 ▸ (below1 w1 _).block g hg
  refine run_build ho1 hd1 rfl hx Tryd.underlying29 hie hz (by rw [hsz]; decide) (by rw [hsz]; decide) (by rw [hsz]; exact fill_vec _ _ _ _ _ _ _ _) (by rw [hW1]; exact H1) ?_
  rw [hW1]
  refine run_appAt ho2 hd2 rfl (hs _) ⟨w1.heap.size, 0, none⟩ 1 1 (look_new _ _) base ie _ 8 144 Tryd.underlying29 hie hz hsz hby rfl (by decide) (n) (xs) hO [c0, c1, c2, c3, c4, c5, c6, c7] rfl (fun q u hq => ?_) (fun u hu => ?_) (by unfold maxLen; omega) (by omega) (by omega) (fun v' W2 hO2 hg2 hwh => ?_)
  · rw [addr_add, Nat.zero_add]
    refine cellOf hK ?_
    rw [← hq]
    have hlt : q < 8 := by have := (List.getElem?_eq_some_iff.1 hq).1; simpa using this
    rcases (show q = 0 ∨ q = 1 ∨ q = 2 ∨ q = 3 ∨ q = 4 ∨ q = 5 ∨ q = 6 ∨ q = 7 by omega) with rfl | rfl | rfl | rfl | rfl | rfl | rfl | rfl <;> rfl
  · simp only [List.mem_cons, List.not_mem_nil, or_false] at hu
    rcases hu with rfl | rfl | rfl | rfl | rfl | rfl | rfl | rfl <;> exact HC _ (by simp)
  have H2 : HeldC w0 W2 L := heldC_grown H1 hg2 (fun k hk => ⟨by have := (hO.lt k hk).1; omega, fun q hq => hL q hq k hk⟩)
  have hv : ∃ sa n c, v' = .slice sa n c := by
    obtain ⟨_, h | ⟨g, cap, cur, e, _⟩⟩ := hO2
    · exact ⟨_, _, _, h.1⟩
    · exact ⟨_, _, _, e⟩
  obtain ⟨sa, n, c', rfl⟩ := hv
  refine ⟨H2, runC_partV hf ho4 hd4 rfl (hp _ _) (run_last_field hl ho3 rfl store_vecs (look_new _ _) (look_next hne) (heldC_at H2 m) hj (fun W3 hW3 => run_done (h _ W3 ⟨_, _, _, rfl⟩ ?_ ?_ ?_ ?_ ?_ ?_)))⟩
  · subst hW3; exact Joins.block_setCell (heldC_at H2 m) _
  · subst hW3; have h5 := ownsRow_set (j := j) (u := .slice sa n c') hO2 hb; exact h5
  · subst hW3; exact H2.1.setCell (p := ⟨b, j, none⟩) hb0 _
  · subst hW3; have := hg2.size; simp; omega
  · rcases hwh with e | e
    · exact .inl e
    · exact .inr ⟨_, e, by omega⟩
  · intro g hg hne hk; subst hW3; rw [Below.heap_setCell _ _ _ _ hne, hg2.block g (by omega) (fun e => hk (by rw [← e])), hE g hg]
end Go.Proofs.YtddebgmjolojeaaDoor

/- Lists of ints that a call builds: indexesWhere, positionsOf. -/
namespace Go.Proofs.YtddebgmjolojeaaDoor
open Go.RowKit
set_option maxRecDepth 100000
set_option linter.unusedVariables false

/-- A list of ints in memory. -/
def intC (l : List Int) : List Value := l.map (fun x => .int .i64 x)
theorem intC_app (l m : List Int) : intC l ++ intC m = intC (l ++ m) := by unfold intC; rw [List.map_append]
theorem intC_F (l : List Int) : intsF (fun i => l.getD i 0) l.length = intC l := by
  unfold intsF intC
  apply List.ext_getElem
  · simp
  · intro i h1 h2
    simp only [List.length_map] at h2
    simp [List.getD_eq_getElem?_getD, h2]
/-- What a loop that appends ints to a local slice keeps. -/
structure IntZ (w wr : World) (l : List Int) (v : Value) : Prop where
  row : wr.ownsRow w.heap.size 3 1 v l.length (intC l)
  below : Below w.heap.size w wr
theorem IntZ.keep {w wr w1 : World} {l : List Int} {v : Value} (h : IntZ w wr l v) (hb : Below wr.heap.size wr w1) : IntZ w w1 l v := ⟨ownsRow_below h.row hb, below_then h.below hb⟩
theorem IntZ.nil (w wr : World) (hb : Below w.heap.size w wr) : IntZ w wr [] (.slice none 0 0) := ⟨⟨rfl, .inl ⟨rfl, rfl⟩⟩, hb⟩
theorem IntZ.nil0 (w wr : World) (hb : Below w.heap.size w wr) : IntZ w (wr.alloc (.cells #[] 3)) [] (.slice (some ⟨wr.heap.size, 0, none⟩) 0 0) := ⟨⟨rfl, .inr ⟨wr.heap.size, 0, #[], rfl, hb.size, blk_new wr _ rfl, Nat.le_refl _, Nat.zero_le _, rfl, rfl⟩⟩, hb.alloc hb.size _⟩
theorem IntZ.ints {w wr : World} {l : List Int} {v : Value} (h : IntZ w wr l v) : ∃ sa c, v = .slice sa l.length c ∧ IntsAt wr.heap.size wr sa l.length (fun i => l.getD i 0) :=
  ints_of_row (f := fun i => l.getD i 0) (by rw [intC_F]; exact h.row)
/-- The indexes below k at which p holds. -/
def whN (p : Nat → Bool) (k : Nat) : List Nat := (List.range k).filter p
def whZ (p : Nat → Bool) (k : Nat) : List Int := (whN p k).map (fun (i : Nat) => (i : Int))
theorem whN_yes {p : Nat → Bool} {k : Nat} (h : p k = true) : whN p (k + 1) = whN p k ++ [k] := by unfold whN; rw [List.range_succ, List.filter_append]; simp [h]
theorem whN_no {p : Nat → Bool} {k : Nat} (h : p k = false) : whN p (k + 1) = whN p k := by unfold whN; rw [List.range_succ, List.filter_append]; simp [h]
theorem whZ_yes {p : Nat → Bool} {k : Nat} (h : p k = true) : whZ p (k + 1) = whZ p k ++ [(k : Int)] := by unfold whZ; rw [whN_yes h, List.map_append]; rfl
theorem whZ_no {p : Nat → Bool} {k : Nat} (h : p k = false) : whZ p (k + 1) = whZ p k := by unfold whZ; rw [whN_no h]
theorem whN_len (p : Nat → Bool) (k : Nat) : (whN p k).length ≤ k := by unfold whN; have := List.length_filter_le p (List.range k); simpa using this
theorem whZ_len (p : Nat → Bool) (k : Nat) : (whZ p k).length = (whN p k).length := by unfold whZ; simp
theorem whN_at {p : Nat → Bool} {k i : Nat} (h : i < (whN p k).length) : (whN p k).getD i 0 < k ∧ p ((whN p k).getD i 0) = true := by
  have hm : (whN p k).getD i 0 ∈ whN p k := by rw [List.getD_eq_getElem?_getD, List.getElem?_eq_getElem h]; exact List.getElem_mem h
  have hm' := List.mem_filter.1 hm
  exact ⟨List.mem_range.1 hm'.1, hm'.2⟩
theorem whN_congr {p q : Nat → Bool} {k : Nat} (h : ∀ i, i < k → p i = q i) : whN p k = whN q k := by
  unfold whN
  exact List.filter_congr (fun i hi => h i (List.mem_range.1 hi))
def posZ (f : Nat → Int) (k : Nat) : List Int := (List.range k).map (fun i => f i + 1)
theorem posZ_succ (f : Nat → Int) (k : Nat) : posZ f (k + 1) = posZ f k ++ [f k + 1] := by unfold posZ; rw [List.range_succ, List.map_append]; rfl
theorem posZ_len (f : Nat → Int) (k : Nat) : (posZ f k).length = k := by unfold posZ; simp
end Go.Proofs.YtddebgmjolojeaaDoor

/- The problem of one operand, in the program; an item that is appended. -/
namespace Go.Proofs.YtddebgmjolojeaaDoor
open Go.RowKit
set_option maxRecDepth 100000
set_option linter.unusedVariables false

/-- An item that is appended to a local slice, where the region does not draw its order. -/
theorem wpList_appIt {w0 w : World} {ops : Array Oper} {rest : List Oper} {o : Oper} {a : Act} {Q : Exit → Act → World → Prop} (hgd : o.guard = none) (s x : Operand)
    (ho : o.op = .call { callee := .builtin .append, args := #[s, x], argTypes := #[28, 28] }) (z : It) (l : List It) (v0 : Value) (b : Nat) (hs : a.eval s = v0) (hx : a.eval x = .slice (some ⟨b, 0, none⟩) 1 1)
    (hr : ItR w0 w l v0) (hb : w.heap[b]? = some (.cells #[.int .i64 z.n, .int .i64 z.d, .string z.t] 67 (0, 0))) (hn : l.length ≤ 1048576)
    (h : ∀ v' w', ItR w0 w' (l ++ [z]) v' → wpList Tryd.prog ops Q rest (a.put o.dst v') w') : wpList Tryd.prog ops Q (o :: rest) a w := by
  obtain ⟨i0, hi0, hz0, hz1, hz2⟩ := info_parts infoItm3
  refine wpList_append_own w hgd s x 28 ho w0.heap.size 67 i0 _ 3 32 Tryd.underlying28 hi0 hz0 hz1 hz2 rfl (by decide) v0 l.length (itCells l) hs hr.row ⟨b, 0, none⟩ 1 1 (itCells [z]) hx rfl (fun j u hj => ?_) (itCells_one _) (by unfold maxLen; omega) (by omega) hr.below.size (fun v' w' h1 h2 _ => ?_)
  · have hlt : j < 3 := by have := (List.getElem?_eq_some_iff.1 hj).1; simpa [itCells] using this
    rw [addr_add, Nat.zero_add]
    refine cellOf hb ?_
    rw [← hj]
    rcases (show j = 0 ∨ j = 1 ∨ j = 2 by omega) with rfl | rfl | rfl <;> rfl
  · have e1 : l.length + 1 = (l ++ [z]).length := by simp
    have e2 : itCells l ++ itCells [z] = itCells (l ++ [z]) := (itCells_app l [z]).symm
    rw [e1, e2] at h1
    exact h v' w' ⟨h1, hr.below.grown h2 hr.below.size (fun r hr' => (hr.row.lt r hr').1)⟩
end Go.Proofs.YtddebgmjolojeaaDoor

/- Elements selected by indexes: selectFrom at items, texts and vectors, knownNames. -/
namespace Go.Proofs.YtddebgmjolojeaaDoor
open Go.RowKit
set_option maxRecDepth 100000
set_option linter.unusedVariables false

/-- The elements at the indexes; none of a list without elements. -/
def pkL {α : Type} (z : α) (l : List α) (idx : List Nat) : List α := match l with | [] => [] | _ :: _ => idx.map (fun i => l.getD i z)
theorem pkL_nil {α : Type} (z : α) (idx : List Nat) : pkL z [] idx = [] := rfl
theorem pkL_some {α : Type} {z : α} {l : List α} {idx : List Nat} (h : l.length ≠ 0) : pkL z l idx = idx.map (fun i => l.getD i z) := by
  cases l with
  | nil => exact absurd rfl h
  | cons x l => rfl
/-- The first k of them. -/
def pkF {α : Type} (z : α) (l : List α) (idx : List Nat) (k : Nat) : List α := (idx.take k).map (fun i => l.getD i z)
theorem pkF_zero {α : Type} (z : α) (l : List α) (idx : List Nat) : pkF z l idx 0 = [] := by unfold pkF; simp
theorem pkF_succ {α : Type} (z : α) (l : List α) (idx : List Nat) {k : Nat} (h : k < idx.length) : pkF z l idx (k + 1) = pkF z l idx k ++ [l.getD (idx.getD k 0) z] := by
  unfold pkF
  rw [List.take_add_one, List.map_append]
  simp [List.getD_eq_getElem?_getD, h]
theorem pkF_full {α : Type} {z : α} {l : List α} {idx : List Nat} (h : l.length ≠ 0) : pkF z l idx idx.length = pkL z l idx := by rw [pkL_some h]; unfold pkF; rw [List.take_length]
theorem pkF_len {α : Type} (z : α) (l : List α) (idx : List Nat) (k : Nat) : (pkF z l idx k).length ≤ k := by unfold pkF; simp; omega
/-- Indexes as ints. -/
def ixF (idx : List Nat) (i : Nat) : Int := ((idx.getD i 0 : Nat) : Int)
/-- What a loop that appends texts to a local slice keeps. -/
structure TxZ (w wr : World) (l : List ByteArray) (v : Value) : Prop where
  row : wr.ownsRow w.heap.size 9 1 v l.length (l.map Value.string)
  below : Below w.heap.size w wr
theorem TxZ.keep {w wr w1 : World} {l : List ByteArray} {v : Value} (h : TxZ w wr l v) (hb : Below wr.heap.size wr w1) : TxZ w w1 l v := ⟨ownsRow_below h.row hb, below_then h.below hb⟩
theorem TxZ.nil (w wr : World) (hb : Below w.heap.size w wr) : TxZ w wr [] (.slice none 0 0) := ⟨⟨rfl, .inl ⟨rfl, rfl⟩⟩, hb⟩
theorem ItR.nil (w wr : World) (hb : Below w.heap.size w wr) : ItR w wr [] (.slice none 0 0) := ⟨⟨rfl, .inl ⟨rfl, rfl⟩⟩, hb⟩
theorem wpList_appTx {w0 w : World} {ops : Array Oper} {rest : List Oper} {o : Oper} {a : Act} {Q : Exit → Act → World → Prop} (hgd : o.guard = none) (s x : Operand)
    (ho : o.op = .call { callee := .builtin .append, args := #[s, x], argTypes := #[24, 24] }) (z : ByteArray) (l : List ByteArray) (v0 : Value) (b : Nat) (hs : a.eval s = v0) (hx : a.eval x = .slice (some ⟨b, 0, none⟩) 1 1)
    (hr : TxZ w0 w l v0) (hb : w.heap[b]? = some (.cells #[.string z] 9 (0, 0))) (hn : l.length ≤ 1048576)
    (h : ∀ v' w', TxZ w0 w' (l ++ [z]) v' → wpList Tryd.prog ops Q rest (a.put o.dst v') w') : wpList Tryd.prog ops Q (o :: rest) a w := by
  obtain ⟨i0, hi0, hz0, hz1, hz2⟩ := info_parts infoStr
  refine wpList_append_own w hgd s x 24 ho w0.heap.size 9 i0 (.string ⟨#[]⟩) 1 16 Tryd.underlying24 hi0 hz0 hz1 hz2 rfl (by decide) v0 l.length (l.map Value.string) hs hr.row ⟨b, 0, none⟩ 1 1 [.string z] hx rfl (fun j u hj => ?_) (fun u hu => by obtain rfl := List.mem_singleton.1 hu; rfl) (by unfold maxLen; omega) (by omega) hr.below.size (fun v' w' h1 h2 _ => ?_)
  · obtain rfl : j = 0 := by have := (List.getElem?_eq_some_iff.1 hj).1; simpa using this
    obtain rfl : Value.string z = u := by simpa using hj
    rw [addr_add]
    exact cellOf hb rfl
  · have e1 : l.length + 1 = (l ++ [z]).length := by simp
    have e2 : l.map Value.string ++ [Value.string z] = (l ++ [z]).map Value.string := by rw [List.map_append]; rfl
    rw [e1, e2] at h1
    exact h v' w' ⟨h1, hr.below.grown h2 hr.below.size (fun r hr' => (hr.row.lt r hr').1)⟩
/-- What a loop that appends vectors of old memory to a local slice keeps. -/
structure RowO (lo hi : Nat) (w wr : World) (d : Nat) (P : List Vec) (k : Nat) (v : Value) : Prop where
  ex : ∃ vals : List Value, vals.length = k ∧ wr.ownsRow w.heap.size 31 8 v k (vals.flatMap cl8) ∧ ∀ i, i < k → Is8 (vals.getD i undef) ∧ VecAt lo hi w d (P.getD i noV) (vals.getD i undef)
  below : Below w.heap.size w wr
theorem RowO.nil (lo hi : Nat) (w : World) (d : Nat) (P : List Vec) : RowO lo hi w w d P 0 (.slice none 0 0) := ⟨⟨[], rfl, ⟨rfl, .inl ⟨rfl, rfl⟩⟩, fun i h => absurd h (Nat.not_lt_zero _)⟩, Below.refl _ _⟩
theorem RowO.keep {lo hi : Nat} {w wr w1 : World} {d : Nat} {P : List Vec} {k : Nat} {v : Value} (h : RowO lo hi w wr d P k v) (hb : Below wr.heap.size wr w1) : RowO lo hi w w1 d P k v := by
  obtain ⟨vals, h1, h2, h3⟩ := h.ex
  exact ⟨⟨vals, h1, ownsRow_below h2 hb, h3⟩, below_then h.below hb⟩
theorem RowO.row {lo hi : Nat} {w wr : World} {d : Nat} {P : List Vec} {k : Nat} {v : Value} (h : RowO lo hi w wr d P k v) : ∃ xs, wr.ownsRow w.heap.size 31 8 v k xs := by
  obtain ⟨vals, _, h2, _⟩ := h.ex
  exact ⟨_, h2⟩
theorem RowO.next {lo hi : Nat} {w wr w1 w2 : World} {d : Nat} {P : List Vec} {k : Nat} {v v' : Value} {c0 c1 c2 c3 c4 c5 c6 c7 : Value} (h : RowO lo hi w wr d P k v) (hv : VecAt lo hi w d (P.getD k noV) (.agg #[c0, c1, c2, c3, c4, c5, c6, c7])) (hb : Below wr.heap.size wr w1) (hg : w1.grownBy w2 v.ownBlock)
    (hr : ∀ xs, wr.ownsRow w.heap.size 31 8 v k xs → w2.ownsRow w.heap.size 31 8 v' (k + 1) (xs ++ [c0, c1, c2, c3, c4, c5, c6, c7])) : RowO lo hi w w2 d P (k + 1) v' := by
  obtain ⟨vals, h1, h2, h3⟩ := h.ex
  refine ⟨⟨vals ++ [Value.agg #[c0, c1, c2, c3, c4, c5, c6, c7]], by simp [h1], ?_, fun i hi => ?_⟩, (below_then h.below hb).grown hg (Nat.le_trans h.below.size hb.size) (fun r hr' => (h2.lt r hr').1)⟩
  · rw [List.flatMap_append]; exact hr _ h2
  · by_cases e : i = k
    · subst e
      have e1 : (vals ++ [Value.agg #[c0, c1, c2, c3, c4, c5, c6, c7]]).getD i undef = .agg #[c0, c1, c2, c3, c4, c5, c6, c7] := by rw [List.getD_eq_getElem?_getD, List.getElem?_append_right (by omega)]; simp [h1]
      rw [e1]
      exact ⟨⟨_, _, _, _, _, _, _, _, rfl⟩, hv⟩
    · have e1 : (vals ++ [Value.agg #[c0, c1, c2, c3, c4, c5, c6, c7]]).getD i undef = vals.getD i undef := by rw [List.getD_eq_getElem?_getD, List.getD_eq_getElem?_getD, List.getElem?_append_left (by omega)]
      rw [e1]
      exact h3 i (by omega)
theorem RowO.vecs {lo hi : Nat} {w wr : World} {d : Nat} {P : List Vec} {v : Value} (h : RowO lo hi w wr d P P.length v) (hhi : hi ≤ w.heap.size) : ∃ sa c, v = .slice sa P.length c ∧ VecsAt 0 wr.heap.size wr d sa P := by
  obtain ⟨vals, h1, ⟨hl, h2⟩, h3⟩ := h.ex
  rcases h2 with ⟨rfl, h0⟩ | ⟨g, cap, cur, rfl, hB, hg, hc, _, hs, ht⟩
  · have hp : P = [] := List.eq_nil_of_length_eq_zero h0
    subst hp
    exact ⟨none, 0, rfl, fun i p hp => by cases hp⟩
  · refine ⟨_, cap, rfl, fun i p hp => ?_⟩
    obtain ⟨hi1, rfl⟩ := List.getElem?_eq_some_iff.1 hp
    have h8 : ∀ u ∈ vals, Is8 u := fun u hu => by
      obtain ⟨q, hq, e⟩ := mem_getD (z := undef) hu
      rw [← e]; exact (h3 q (by omega)).1
    obtain ⟨c0, c1, c2, c3, c4, c5, c6, c7, e, m0, m1, m2, m3, m4, m5, m6, m7⟩ := flat8_at vals h8 i (by omega)
    have key : ∀ j, j < P.length * 8 → cur[j]? = (vals.flatMap cl8)[j]? := fun j hj => by
      rw [← ht, List.getElem?_take_of_lt hj, Array.getElem?_toList]
    have hv := (h3 i hi1).2
    rw [e, show P.getD i noV = P[i] by simp [List.getD_eq_getElem?_getD, hi1]] at hv
    refine ⟨g, 0, c0, c1, c2, c3, c4, c5, c6, c7, rfl, Nat.zero_le _, (Array.getElem?_eq_some_iff.1 hg).1, (hv.below h.below hhi).wide (Nat.zero_le _) (Nat.le_trans hhi h.below.size) _ _ _, ?_, ?_, ?_, ?_, ?_, ?_, ?_, ?_⟩ <;> rw [Nat.zero_add]
    · exact cellOf hg ((key _ (by omega)).trans m0)
    · exact cellOf hg ((key _ (by omega)).trans m1)
    · exact cellOf hg ((key _ (by omega)).trans m2)
    · exact cellOf hg ((key _ (by omega)).trans m3)
    · exact cellOf hg ((key _ (by omega)).trans m4)
    · exact cellOf hg ((key _ (by omega)).trans m5)
    · exact cellOf hg ((key _ (by omega)).trans m6)
    · exact cellOf hg ((key _ (by omega)).trans m7)
/-- The blocks of a copied slice of vectors. -/
theorem OwnParts.rowX {lo : Nat} {w : World} {d : Nat} {v : Value} {parts : List Vec} {F : List Nat} {xs : List Value} (h : OwnParts w d v parts F) (hn : F.Nodup) (hr : w.ownsRow lo 31 8 v parts.length xs) : ∃ X, RowX lo w d parts v X ∧ X.Nodup ∧ (∀ g ∈ X, g ∈ F) ∧ Off v X := by
  obtain ⟨ap, cp, rfl, _, ⟨rfl, rfl⟩ | ⟨b, C, Fs, rfl, hl, rfl, hb, hC, hp⟩⟩ := h
  · exact ⟨[], ⟨[], [], rfl, rfl, by
      obtain ⟨hx, hr⟩ := hr
      exact ⟨rfl, hr.imp id (fun ⟨b, cap, cur, e, h1, h2, h3, h4, h5, _⟩ => ⟨b, cap, cur, e, h1, h2, h3, h4, h5, by simp⟩)⟩, fun i h => absurd h (Nat.not_lt_zero _), rfl⟩, List.nodup_nil, (fun _ h => by cases h), (fun _ _ h => by cases h)⟩
  · have hch : ∀ i, ∃ val, i < parts.length → OwnVec w d (parts.getD i noV) val (Fs.getD i []) ∧ Eight C i val := fun i => by
      by_cases hi : i < parts.length
      · obtain ⟨val, h1, h2⟩ := hp i hi
        exact ⟨val, fun _ => ⟨h1, h2⟩⟩
      · exact ⟨undef, fun h => absurd h hi⟩
    obtain ⟨f, hf⟩ := Classical.axiomOfChoice hch
    have hvl : ((List.range parts.length).map f).length = parts.length := by simp
    have hva : ∀ i, i < parts.length → ((List.range parts.length).map f).getD i undef = f i := fun i hi => by simp [List.getD_eq_getElem?_getD, hi]
    have h8 : ∀ u ∈ (List.range parts.length).map f, Is8 u := fun u hu => by
      obtain ⟨i, hi, rfl⟩ := List.mem_map.1 hu
      exact (hf i (List.mem_range.1 hi)).1.is8
    have hx : xs = ((List.range parts.length).map f).flatMap cl8 := by
      obtain ⟨hxl, hr⟩ := hr
      rcases hr with ⟨e, _⟩ | ⟨g, cap, cur, e, hB, hg, hc, _, hs, ht⟩
      · cases e
      · simp only [Value.slice.injEq, Option.some.injEq, Addr.mk.injEq] at e
        obtain ⟨⟨rfl, _⟩, _, rfl⟩ := e
        have eC : C = cur := by rw [hb] at hg; simpa using hg
        subst eC
        have hfl := flat8_len _ h8
        rw [hvl] at hfl
        apply List.ext_getElem?
        intro q
        by_cases hq : q < parts.length * 8
        · have hi : q / 8 < parts.length := by omega
          obtain ⟨c0, c1, c2, c3, c4, c5, c6, c7, e, m0, m1, m2, m3, m4, m5, m6, m7⟩ := flat8_at _ h8 (q / 8) (by rw [hvl]; exact hi)
          obtain ⟨d0, d1, d2, d3, d4, d5, d6, d7, e', n0, n1, n2, n3, n4, n5, n6, n7⟩ := (hf _ hi).2
          rw [hva _ hi, e'] at e
          simp only [Value.agg.injEq, Array.mk.injEq, List.cons.injEq, and_true] at e
          obtain ⟨rfl, rfl, rfl, rfl, rfl, rfl, rfl, rfl⟩ := e
          have k0 : xs[q]? = C[q]? := by rw [← ht, List.getElem?_take_of_lt hq, Array.getElem?_toList]
          rw [k0]
          rcases (show q = q / 8 * 8 ∨ q = q / 8 * 8 + 1 ∨ q = q / 8 * 8 + 2 ∨ q = q / 8 * 8 + 3 ∨ q = q / 8 * 8 + 4 ∨ q = q / 8 * 8 + 5 ∨ q = q / 8 * 8 + 6 ∨ q = q / 8 * 8 + 7 by omega) with hq' | hq' | hq' | hq' | hq' | hq' | hq' | hq'
          · rw [hq', n0, m0]
          · rw [hq', n1, m1]
          · rw [hq', n2, m2]
          · rw [hq', n3, m3]
          · rw [hq', n4, m4]
          · rw [hq', n5, m5]
          · rw [hq', n6, m6]
          · rw [hq', n7, m7]
        · rw [List.getElem?_eq_none (by omega), List.getElem?_eq_none (by omega)]
    rw [List.nodup_cons] at hn
    refine ⟨Fs.flatten, ⟨_, Fs, hvl, hl, hx ▸ hr, fun i hi => ?_, rfl⟩, hn.2, fun g hg => List.mem_cons_of_mem _ hg, fun g hg => ?_⟩
    · rw [hva i hi]; exact (hf i hi).1
    · obtain rfl : b = g := Option.some.inj hg
      exact hn.1
/-- Names, or none where all are empty. -/
noncomputable def clnN (l : List ByteArray) : List ByteArray := match bB (∃ i, i < l.length ∧ (l.getD i ⟨#[]⟩).size ≠ 0) with | true => l | false => []
theorem clnN_yes {l : List ByteArray} (h : ∃ i, i < l.length ∧ (l.getD i ⟨#[]⟩).size ≠ 0) : clnN l = l := by unfold clnN; rw [bB_yes h]
theorem clnN_no {l : List ByteArray} (h : ¬ ∃ i, i < l.length ∧ (l.getD i ⟨#[]⟩).size ≠ 0) : clnN l = [] := by unfold clnN; rw [bB_no h]
theorem implKnownN (l : List ByteArray) (a : Option Addr) (c lo hi : Nat) (w : World) (hT : TextsAt lo hi w a l) (hn : l.length ≤ 1048576) :
    Calls Tryd.prog 48 #[.slice a l.length c] w fun e w' => ((clnN l = l ∧ e = .returned (.slice a l.length c)) ∨ (clnN l = [] ∧ e = .returned (.slice none 0 0))) ∧ w = w' := by
  have C := Lib.hid (fun W => (show w = W → _ from fun e => by subst e; exact implAreEmpty a l.length c (fun i => l.getD i ⟨#[]⟩) hi w hT.strs (by omega)))
  by_cases h : ∃ i, i < l.length ∧ (l.getD i ⟨#[]⟩).size ≠ 0
  · have X := Lib.hid (clnN_yes h)
    have E : bB (¬ SomeIn (fun i => l.getD i ⟨#[]⟩) l.length) = false := bB_no (fun k => k h)
    rw [E] at C
    clear h E hT
    go_enter Tryd.func48, Tryd.ntmps48
    go_wp2_with fail
    with_reducible refine (C.out _ rfl).mono ?_
    rintro e w' ⟨rfl, rfl⟩
    go_wp2
    go_ret
    exact ⟨.inl ⟨X.out, rfl⟩, rfl⟩
  · have X := Lib.hid (clnN_no h)
    have E : bB (¬ SomeIn (fun i => l.getD i ⟨#[]⟩) l.length) = true := bB_yes h
    rw [E] at C
    clear h E hT
    go_enter Tryd.func48, Tryd.ntmps48
    go_wp2_with fail
    with_reducible refine (C.out _ rfl).mono ?_
    rintro e w' ⟨rfl, rfl⟩
    go_wp2
    go_ret
    exact ⟨.inr ⟨X.out, rfl⟩, rfl⟩
end Go.Proofs.YtddebgmjolojeaaDoor

/- Many elements appended; parts onto a vector under way. -/
namespace Go.Proofs.YtddebgmjolojeaaDoor
open Go.RowKit
set_option maxRecDepth 100000
set_option linter.unusedVariables false

theorem grownM (w : World) (r : Option Nat) : w.grownBy w r := ⟨rfl, rfl, rfl, Nat.le_refl _, fun _ _ _ => rfl⟩
theorem row_cells {w : World} {base : Nat} {el : TypeId} {size n : Nat} {v : Value} {xs : List Value} (h : w.ownsRow base el size v n xs) (hn : 0 < n) : ∃ g cap, v = .slice (some ⟨g, 0, none⟩) n cap ∧ ∀ j u, xs[j]? = some u → w.cell? ((⟨g, 0, none⟩ : Addr).add j) = some u := by
  obtain ⟨h1, ⟨_, h0⟩ | ⟨g, cap, cur, e, _, hg, _, _, _, ht⟩⟩ := h
  · omega
  · refine ⟨g, cap, e, fun j u hj => ?_⟩
    have hlt := (List.getElem?_eq_some_iff.1 hj).1
    rw [addr_add, Nat.zero_add]
    refine cellOf hg ?_
    rw [← hj, ← ht, List.getElem?_take, if_pos (by rw [← ht] at hlt; simp at hlt; omega), Array.getElem?_toList]
theorem own_oneM {w : World} {d : Nat} {v : Vec} {val : Value} {F : List Nat} (h : OwnVec w d v val F) : ∀ u ∈ cl8 val, u.oneCell' = true := by
  cases d with
  | zero => exact h.elim
  | succ d =>
    obtain ⟨k, items, parts, names, cls, levels, code, env⟩ := v
    unfold OwnVec at h
    obtain ⟨ai, ci, ap, cp, an, cn, ac, cc, al, cl, Fi, Fp, Fn, Fc, Fl, rfl, _, _⟩ := h
    intro u hu
    have hu' : u ∈ ([.int .i64 k, .slice ai items.length ci, .slice ap parts.length cp, .slice an names.length cn, .slice ac cls.length cc, .slice al levels.length cl, .int .i64 code, .int .i64 env] : List Value) := hu
    simp only [List.mem_cons, List.not_mem_nil, or_false] at hu'
    rcases hu' with rfl | rfl | rfl | rfl | rfl | rfl | rfl | rfl <;> rfl
theorem flat_oneM {w : World} {d : Nat} {Q : List Vec} {vals : List Value} {Fs : List (List Nat)} (g1 : vals.length = Q.length) (g4 : ∀ i, i < Q.length → OwnVec w d (Q.getD i noV) (vals.getD i undef) (Fs.getD i [])) : ∀ u ∈ vals.flatMap cl8, u.oneCell' = true := by
  intro u hu
  obtain ⟨val, hv, hu'⟩ := List.mem_flatMap.1 hu
  obtain ⟨i, hi⟩ := List.getElem?_of_mem hv
  have hlt := (List.getElem?_eq_some_iff.1 hi).1
  have h := g4 i (by omega)
  rw [show vals.getD i undef = val by rw [List.getD_eq_getElem?_getD, hi]; rfl] at h
  exact own_oneM h u hu'
theorem RowX.appX {lo : Nat} {w w' : World} {d : Nat} {parts Q : List Vec} {v' : Value} {vals vals2 : List Value} {Fs Fs2 : List (List Nat)} (h1 : vals.length = parts.length) (h2 : Fs.length = parts.length)
    (h4 : ∀ i, i < parts.length → OwnVec w d (parts.getD i noV) (vals.getD i undef) (Fs.getD i [])) (g1 : vals2.length = Q.length) (g2 : Fs2.length = Q.length) (g4 : ∀ i, i < Q.length → OwnVec w' d (Q.getD i noV) (vals2.getD i undef) (Fs2.getD i []))
    (hr : w'.ownsRow lo 31 8 v' (parts.length + Q.length) (vals.flatMap cl8 ++ vals2.flatMap cl8)) (hX : ∀ g ∈ Fs.flatten, w'.heap[g]? = w.heap[g]?) : RowX lo w' d (parts ++ Q) v' (Fs.flatten ++ Fs2.flatten) := by
  have hl : (parts ++ Q).length = parts.length + Q.length := by simp
  refine ⟨vals ++ vals2, Fs ++ Fs2, by simp [h1, g1], by simp [h2, g2], ?_, fun i hi => ?_, by simp⟩
  · rw [hl, List.flatMap_append]
    exact hr
  · rw [hl] at hi
    by_cases e : i < parts.length
    · have e0 : (parts ++ Q).getD i noV = parts.getD i noV := by rw [List.getD_eq_getElem?_getD, List.getD_eq_getElem?_getD, List.getElem?_append_left (by omega)]
      have e1 : (vals ++ vals2).getD i undef = vals.getD i undef := by rw [List.getD_eq_getElem?_getD, List.getD_eq_getElem?_getD, List.getElem?_append_left (by omega)]
      have e2 : (Fs ++ Fs2).getD i [] = Fs.getD i [] := by rw [List.getD_eq_getElem?_getD, List.getD_eq_getElem?_getD, List.getElem?_append_left (by omega)]
      rw [e0, e1, e2]
      exact (h4 i e).kept _ _ _ _ (fun b hb => hX b (mem_flat (by omega) hb))
    · have e0 : (parts ++ Q).getD i noV = Q.getD (i - parts.length) noV := by rw [List.getD_eq_getElem?_getD, List.getD_eq_getElem?_getD, List.getElem?_append_right (by omega)]
      have e1 : (vals ++ vals2).getD i undef = vals2.getD (i - parts.length) undef := by rw [List.getD_eq_getElem?_getD, List.getD_eq_getElem?_getD, List.getElem?_append_right (by omega), h1]
      have e2 : (Fs ++ Fs2).getD i [] = Fs2.getD (i - parts.length) [] := by rw [List.getD_eq_getElem?_getD, List.getD_eq_getElem?_getD, List.getElem?_append_right (by omega), h2]
      rw [e0, e1, e2]
      exact g4 _ (by omega)
theorem Und.appP {lo : Nat} {w0 w1 w2 : World} {d : Nat} {items : List It} {parts Q : List Vec} {names cls lev : List ByteArray} {vi vp vn vc vl v' : Value} {X X7 : List Nat} {vals vals2 : List Value} {Fs Fs2 : List (List Nat)} (h : Und lo w0 d items parts names cls lev vi vp vn vc vl X) (hb : Below w0.heap.size w0 w1)
    (h1 : vals.length = parts.length) (h2 : Fs.length = parts.length) (h4 : ∀ i, i < parts.length → OwnVec w1 d (parts.getD i noV) (vals.getD i undef) (Fs.getD i [])) (h5 : Fs.flatten = X)
    (g1 : vals2.length = Q.length) (g2 : Fs2.length = Q.length) (g4 : ∀ i, i < Q.length → OwnVec w1 d (Q.getD i noV) (vals2.getD i undef) (Fs2.getD i [])) (g5 : Fs2.flatten = X7) (n7 : X7.Nodup) (r7 : ∀ g ∈ X7, w0.heap.size ≤ g ∧ g < w1.heap.size)
    (hr : w2.ownsRow lo 31 8 v' (parts.length + Q.length) (vals.flatMap cl8 ++ vals2.flatMap cl8)) (hm : Moved w1 vp v') (hG : ∀ g, lo ≤ g → g < w1.heap.size → vp.ownBlock ≠ some g → w2.heap[g]? = w1.heap[g]?) (hs : w1.heap.size ≤ w2.heap.size) (hlo : lo ≤ w0.heap.size) :
    Und lo w2 d items (parts ++ Q) names cls lev vi v' vn vc vl (X ++ X7) := by
  subst h5
  subst g5
  have hpb := h.pb
  have h01 := hb.size
  have hF : ∀ g ∈ Fs2.flatten, vp.ownBlock ≠ some g := fun g hg e => by have := hpb.1 g e; have := r7 g hg; omega
  have hXk : ∀ g ∈ Fs.flatten, w2.heap[g]? = w1.heap[g]? := fun g hg => by
    have hr := h.rg g hg
    exact hG g hr.1 (by omega) (fun e => h.off.2.1 g e hg)
  have hR := RowX.appX h1 h2 h4 g1 g2 (fun i hi => (g4 i hi).kept _ _ _ _ (fun g hg => by have hm := mem_flat (by omega) hg; have := r7 g hm; exact hG g (by omega) (by omega) (hF g hm))) hr hXk
  have hm0 : Moved w0 vp v' := by
    rcases hm with e | ⟨g, e, hg⟩
    · exact .inl e
    · exact .inr ⟨g, e, by omega⟩
  refine h.setP hR hm0 (fun g hg hlt hne => (hG g hg (by omega) hne).trans (hb.block g hlt)) (by omega) ?_ (fun g hg => ?_) hlo ?_
  · rw [List.nodup_append]
    refine ⟨h.nd, n7, fun a ha b hb' e => ?_⟩
    have := (h.rg a ha).2
    have := (r7 b hb').1
    omega
  · rcases List.mem_append.1 hg with h' | h'
    · have := (h.rg g h').2; exact ⟨.inl h', by omega⟩
    · have := r7 g h'; exact ⟨.inr this.1, by omega⟩
  · intro g hg hx
    rcases hm with e | ⟨g', e, hge⟩
    · rcases List.mem_append.1 hx with h' | h'
      · exact h.off.2.1 g (e ▸ hg) h'
      · exact hF g h' (e ▸ hg)
    · rw [e] at hg
      obtain rfl := Option.some.inj hg
      rcases List.mem_append.1 hx with h' | h'
      · have := (h.rg _ h').2; omega
      · have := (r7 _ h').2; omega
section
variable {P : Program} {ops : Array Oper} {Q : Exit → Act → World → Prop} {S : World → Prop}
variable {r : List (Nat × Bool)} {a : Act} {e : List (Nat × Value)} {w : World} {i d : Nat} {g : Option (Nat × Bool)} {v : Value}
/-- Many elements appended, none too. -/
theorem run_appM {t el : TypeId} {x y : Operand} {v0 : Value} (ho : opAt ops i = some (some d, .call { callee := .builtin .append, args := [x, y].toArray, argTypes := [t, t].toArray }, g)) (hd : Nat.blt d a.tmps.size = true) (hw : wantE ops a e g = some true)
    (hx : lookO a e x = v0) (ad : Option Addr) (m c : Nat) (hy : lookO a e y = .slice ad m c)
    (base : Nat) (ie : TypeInfo) (z : Value) (size bytes : Nat) (ht : P.underlying t = some (.slice el)) (hi : P.info? el = some ie) (hz : ie.zero = some z) (hsize : ie.size = size) (hby : ie.bytes = bytes) (hzs : z.cells.size = size) (hsz : 0 < size)
    (n : Nat) (xs : List Value) (hown : w.ownsRow base el size v0 n xs) (h0 : m = 0 → n = 0) (news : List Value) (hl : news.length = m * size) (hnews : 0 < m → ∃ b : Addr, ad = some b ∧ ∀ j u, news[j]? = some u → w.cell? (b.add j) = some u) (h1 : ∀ u ∈ news, u.oneCell' = true)
    (h63 : n + m ≤ maxLen) (hbytes : (n + m) * bytes ≤ 140737488355328) (hbase : base ≤ w.heap.size)
    (h : ∀ v' w', w'.ownsRow base el size v' (n + m) (xs ++ news) → w.grownBy w' v0.ownBlock → (v'.ownBlock = v0.ownBlock ∨ v'.ownBlock = some w.heap.size) → S w' ∧ RunE P ops Q S r a ((d, v') :: e) w') : RunE P ops Q S ((i, false) :: r) a e w := by
  by_cases hm : 0 < m
  · obtain ⟨b, rfl, hn2⟩ := hnews hm
    exact run_appAt ho hd hw hx b m c hy base ie z size bytes ht hi hz hsize hby hzs hsz n xs hown news hl hn2 h1 h63 hbytes hbase h
  · obtain rfl : m = 0 := by omega
    obtain rfl := h0 rfl
    have hxs : xs = [] := List.eq_nil_of_length_eq_zero (by rw [hown.1, Nat.zero_mul])
    subst hxs
    exact run_appW ho hd hw hx ad 0 c hy base ie z size bytes ht hi hz hsize hby hzs hsz hown news hl (fun h => absurd h (Nat.lt_irrefl _)) h1 (Nat.zero_le _) (by omega) hbase h
end
theorem wpList_appM {P : Program} {w : World} {ops : Array Oper} {rest : List Oper} {o : Oper} {a : Act} {Q : Exit → Act → World → Prop} (hgd : o.guard = none) (s x : Operand) (t : TypeId) {el : TypeId}
    (ho : o.op = .call { callee := .builtin .append, args := #[s, x], argTypes := #[t, t] }) (base : Nat) (ie : TypeInfo) (z : Value) (size bytes : Nat) (ht : P.underlying t = some (.slice el)) (hi : P.info? el = some ie) (hz : ie.zero = some z) (hsize : ie.size = size) (hby : ie.bytes = bytes) (hzs : z.cells.size = size) (hsz : 0 < size)
    (v0 : Value) (n : Nat) (xs : List Value) (hs : a.eval s = v0) (hown : w.ownsRow base el size v0 n xs) (ad : Option Addr) (m c : Nat) (news : List Value) (hx : a.eval x = .slice ad m c) (h0 : m = 0 → n = 0) (hl : news.length = m * size) (hnews : 0 < m → ∃ b : Addr, ad = some b ∧ ∀ j u, news[j]? = some u → w.cell? (b.add j) = some u) (h1 : ∀ u ∈ news, u.oneCell' = true)
    (h63 : n + m ≤ maxLen) (hbytes : (n + m) * bytes ≤ 140737488355328) (hbase : base ≤ w.heap.size)
    (h : ∀ v' w', w'.ownsRow base el size v' (n + m) (xs ++ news) → w.grownBy w' v0.ownBlock → Moved w v0 v' → wpList P ops Q rest (a.put o.dst v') w') : wpList P ops Q (o :: rest) a w := by
  by_cases hm : 0 < m
  · obtain ⟨b, rfl, hn2⟩ := hnews hm
    exact wpList_append_own_at w hgd s x t ho base el ie z size bytes ht hi hz hsize hby hzs hsz v0 n xs hs hown b m c news hx hl hn2 h1 h63 hbytes hbase (fun v' w' q1 q2 _ q4 => h v' w' q1 q2 (q4.imp id (fun e => ⟨_, e, Nat.le_refl _⟩)))
  · obtain rfl : m = 0 := by omega
    obtain rfl := h0 rfl
    have hxs : xs = [] := List.eq_nil_of_length_eq_zero (by rw [hown.1, Nat.zero_mul])
    have hns : news = [] := List.eq_nil_of_length_eq_zero (by rw [hl, Nat.zero_mul])
    subst hxs
    subst hns
    have hrun := fun ty => run_app0W (P := P) (w := w) (ty := ty) (v0 := v0) ht hi (by
      obtain ⟨_, ⟨e, _⟩ | ⟨g, k, _, e, _⟩⟩ := hown
      · exact .inl e
      · exact .inr ⟨g, k, e⟩) ad c
    refine wpList_plain hgd fun K hK => ?_
    have hnext := h v0 w hown (grownM _ _) (.inl rfl)
    unfold Oper.wp
    simp [execOp, ho, resolve, invoke, builtin, hs, hx, hrun, Result.andThen]
    exact hK _ _ hnext
/-- Parts appended to a vector's field: the end of a drawn region. -/
theorem tail_vecsM {ops : Array Oper} {Q : Exit → Act → World → Prop} {a : Act} {e : List (Nat × Value)} {w0 w1 : World} {L : List (Nat × TypeId × Array Value)} {i2 i3 i4 d2 d4 b j base : Nat} {s y p : Operand} {v0 c : Value} {C : Array Value} {tt : TypeId} {n m cap : Nat} {ad : Option Addr} {xs news : List Value}
    (ho2 : opAt ops i2 = some (some d2, .call { callee := .builtin .append, args := [s, y].toArray, argTypes := [29, 29].toArray }, none)) (hd2 : Nat.blt d2 a.tmps.size = true) (hs : lookO a e s = v0) (hy : lookO a e y = .slice ad m cap)
    (ho4 : opAt ops i4 = some (some d4, .fieldAddr 31 p j, none)) (hd4 : Nat.blt d4 a.tmps.size = true) (hf : Nat.blt j 8 = true) (hp : ∀ u', lookO a ((d2, u') :: e) p = .pointer (some ⟨b, 0, none⟩))
    (ho3 : opAt ops i3 = some (none, .store 29 (.tmp d4) (.tmp d2), none)) (hl : lastK ops i3 = true) (hne : Nat.beq d4 d2 = false)
    (H : HeldC w0 w1 L) (hown : w1.ownsRow base 31 8 v0 n xs) (h0 : m = 0 → n = 0) (hnl : news.length = m * 8) (hnews : 0 < m → ∃ b : Addr, ad = some b ∧ ∀ j u, news[j]? = some u → w1.cell? (b.add j) = some u) (h1 : ∀ u ∈ news, u.oneCell' = true) (hn : n + m ≤ 1048576) (hbase : base ≤ w1.heap.size) (hw0 : w0.heap.size ≤ base) (hm : (b, tt, C) ∈ L) (hj : C[j]? = some c)
    (hL : ∀ q ∈ L, ∀ k, v0.ownBlock = some k → q.1 ≠ k)
    (h : ∀ v' W, (∃ sa n c, v' = .slice sa n c) → W.ownsRow base 31 8 v' (n + m) (xs ++ news) → w1.grownBy W v0.ownBlock → Moved w1 v0 v' → HeldC w0 W L → Q .normal (putAll a ((d4, .pointer (some ⟨b, j, none⟩)) :: (d2, v') :: e)) (W.setCell ⟨b, j, none⟩ v')) :
    RunE Tryd.prog ops Q (fun w' => HeldC w0 w' L) [(i2, false), (i4, true), (i3, false)] a e w1 := by
  obtain ⟨ie, hie, hz, hsz, hby⟩ := info_parts infoVec8
  refine run_appM ho2 hd2 rfl hs ad m cap hy base ie _ 8 144 Tryd.underlying29 hie hz hsz hby rfl (by decide) n xs hown h0 news hnl hnews h1 (by unfold maxLen; omega) (by omega) hbase (fun v' W2 hO2 hg2 hwh => ?_)
  have H2 : HeldC w0 W2 L := heldC_grown H hg2 (fun k hk => ⟨by have := (hown.lt k hk).1; omega, fun q hq => hL q hq k hk⟩)
  have hv : ∃ sa n c, v' = .slice sa n c := by
    obtain ⟨_, h | ⟨g, cap, cur, e, _⟩⟩ := hO2
    · exact ⟨_, _, _, h.1⟩
    · exact ⟨_, _, _, e⟩
  have hM : Moved w1 v0 v' := hwh.imp id (fun e => ⟨_, e, Nat.le_refl _⟩)
  have hq := h v' W2 hv hO2 hg2 hM H2
  obtain ⟨sa, n', c', rfl⟩ := hv
  exact ⟨H2, runC_partV hf ho4 hd4 rfl (hp _) (run_last_field hl ho3 rfl store_vecs (look_new _ _) (look_next hne) (heldC_at H2 hm) hj (fun W3 hW3 => run_done (hW3 ▸ hq)))⟩
/-- The class and the levels, made before the rest, beside the rest. -/
theorem Und.join {lo b : Nat} {w : World} {d : Nat} {items : List It} {parts : List Vec} {names cls lev : List ByteArray} {vi vp vn vc vl : Value} {X : List Nat} (h : Und b w d items parts names [] [] vi vp vn (.slice none 0 0) (.slice none 0 0) X) (hc : w.ownsRow lo 9 1 vc cls.length (cls.map Value.string)) (hl : w.ownsRow lo 9 1 vl lev.length (lev.map Value.string))
    (hcl : Apart2 vc vl) (bc : ∀ g, vc.ownBlock = some g → g < b) (bl : ∀ g, vl.ownBlock = some g → g < b) (hlo : lo ≤ b) : Und lo w d items parts names cls lev vi vp vn vc vl X := by
  have h' := h.wide hlo
  have ap : ∀ {u v : Value}, (∀ g, u.ownBlock = some g → b ≤ g) → (∀ g, v.ownBlock = some g → g < b) → Apart2 u v := fun hu hv g e1 e2 => by have := hu g e1; have := hv g e2; omega
  have li := fun g hg => (h.i.lt g hg).1
  have lp := h.pb.2
  have ln := fun g hg => (h.n.lt g hg).1
  exact ⟨h'.i, h'.p, h'.n, hc, hl, h.nd, h'.rg, ⟨⟨h.two.1.1, h.two.1.2.1, ap li bc, ap li bl⟩, ⟨h.two.2.1.1, ap lp bc, ap lp bl⟩, ⟨ap ln bc, ap ln bl⟩, hcl⟩, ⟨h.off.1, h.off.2.1, h.off.2.2.1, fun g e hx => by have := bc g e; have := (h.rg g hx).1; omega, fun g e hx => by have := bl g e; have := (h.rg g hx).1; omega⟩⟩
end Go.Proofs.YtddebgmjolojeaaDoor
