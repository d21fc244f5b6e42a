/- Chapter 6 in the program: variances. -/
import Derived.Test.YtlnjjjoeblopeaaRows
import Derived.Test.YtlnjjjoeblopeaaMg2
import Derived.Test.YtlnjjjoeblopeaaMg1
import Derived.Laws.EntriesVeiled
import Derived.WalkKit
import Derived.OwnWalk
import Derived.Deep.DeepCutAuto
import Derived.Lib.Hide
import Derived.WideMake
import Derived.RegionTactic
namespace Go.Proofs.Ytlnjjjoeblopeaa
open Go.RowKit
set_option maxRecDepth 100000
set_option linter.unusedVariables false

set_option maxHeartbeats 1000000 in
theorem implVarClo (s x M : It) (g : Nat) (w : World) (hs : s.t.size ≤ 9223372036854775807) (hx : x.t.size ≤ 9223372036854775807) (hM : M.t.size ≤ 9223372036854775807) (hg : w.heap[g]? = some (.cells #[.int .i64 M.n, .int .i64 M.d, .string M.t] 66 (0, 0))) :
    Calls Try.prog 137 #[.agg #[.int .i64 s.n, .int .i64 s.d, .string s.t], .agg #[.int .i64 x.n, .int .i64 x.d, .string x.t], .pointer (some ⟨g, 0, none⟩)] w fun e w' => e = .returned (.agg #[.int .i64 (sqI M s x).n, .int .i64 (sqI M s x).d, .string (sqI M s x).t]) ∧ Below w.heap.size w w' := by
  obtain ⟨d, hd⟩ : ∃ d, subI x M = d := ⟨_, rfl⟩
  have GD := Lib.hid (show d.t.size ≤ 9223372036854775807 by rw [← hd]; exact (good_subI x M).t0)
  have NX : sqI M s x = addI s (mulI d d) := by rw [← hd]; rfl
  rw [NX]
  have CO := Lib.hid (fun W => hd ▸ implSub x M W hx hM)
  have CM := Lib.hid (fun W => implMul d d W GD.out GD.out)
  have CA := Lib.hid (fun W => implAdd s (mulI d d) W hs (good_mulI d d).t0)
  have hgw := (Array.getElem?_eq_some_iff.1 hg).1
  have KG0 := Lib.hid hg
  clear hd NX hs hx hM hg
  go_enter Try.func137, Try.ntmps137
  go_upto_region 1 with (fail)
  obtain ⟨w1, hw1⟩ : ∃ W, ((w.alloc (.cells #[.int .i64 s.n, .int .i64 s.d, .string s.t] 66)).alloc (.cells #[.int .i64 x.n, .int .i64 x.d, .string x.t] 66)).alloc (.cells #[.int .i64 0, .int .i64 0, .string ⟨#[]⟩] 66) = W := ⟨_, rfl⟩
  have hsz1 : (w.alloc (.cells #[.int .i64 s.n, .int .i64 s.d, .string s.t] 66)).heap.size = w.heap.size + 1 := by simp
  have hsz2 : ((w.alloc (.cells #[.int .i64 s.n, .int .i64 s.d, .string s.t] 66)).alloc (.cells #[.int .i64 x.n, .int .i64 x.d, .string x.t] 66)).heap.size = w.heap.size + 1 + 1 := by simp
  have B1 := Lib.hid (show Below w.heap.size w w1 from hw1 ▸ below3 w _ _ _)
  have K0 := Lib.hid (show w1.heap[w.heap.size]? = some (.cells #[.int .i64 s.n, .int .i64 s.d, .string s.t] 66 (0, 0)) from by rw [← hw1]; exact blk_old (blk_old (blk_new w _ rfl)))
  have K2 := Lib.hid (show w1.heap[w.heap.size + 1 + 1]? = some (.cells #[.int .i64 0, .int .i64 0, .string ⟨#[]⟩] 66 (0, 0)) from by rw [← hw1]; exact blk_new _ _ hsz2.symm)
  have K1 := Lib.hid (show w1.heap[w.heap.size + 1]? = some (.cells #[.int .i64 x.n, .int .i64 x.d, .string x.t] 66 (0, 0)) from by rw [← hw1]; exact blk_old (blk_new _ _ hsz1.symm))
  have KG1 := Lib.hid ((B1.out.block g hgw).trans KG0.out)
  rw [hw1]
  clear hw1 hsz1 hsz2
  obtain ⟨⟨m0, m1, m2⟩, _⟩ := three KG1.out
  obtain ⟨⟨x0, x1, x2⟩, _⟩ := three K1.out
  go_wp2_with fail
  with_reducible refine (CO.out _).mono ?_
  rintro e w2 ⟨rfl, b⟩
  have B2 := Lib.hid (below_then B1.out b)
  have K0 := Lib.hid (blk_below b K0.out)
  have K2 := Lib.hid (blk_below b K2.out)
  clear b
  go_upto_region 2 with (fail)
  obtain ⟨w3, hw3⟩ : ∃ W, w2.alloc (.cells #[.int .i64 d.n, .int .i64 d.d, .string d.t] 66) = W := ⟨_, rfl⟩
  have B3 := Lib.hid (show Below w.heap.size w w3 from hw3 ▸ B2.out.alloc B2.out.size _)
  have K6 := Lib.hid (show w3.heap[w2.heap.size]? = some (.cells #[.int .i64 d.n, .int .i64 d.d, .string d.t] 66 (0, 0)) from hw3 ▸ blk_new w2 _ rfl)
  have K0 := Lib.hid (show w3.heap[w.heap.size]? = some (.cells #[.int .i64 s.n, .int .i64 s.d, .string s.t] 66 (0, 0)) from hw3 ▸ blk_old K0.out)
  have K2 := Lib.hid (show w3.heap[w.heap.size + 1 + 1]? = some (.cells #[.int .i64 0, .int .i64 0, .string ⟨#[]⟩] 66 (0, 0)) from hw3 ▸ blk_old K2.out)
  rw [hw3]
  clear hw3
  obtain ⟨g6, hg6⟩ : ∃ g, w2.heap.size = g := ⟨_, rfl⟩
  rw [hg6] at K6 ⊢
  clear hg6
  have H := Lib.hid (show HeldC w w3 ([(g6, 66, #[.int .i64 d.n, .int .i64 d.d, .string d.t]), (w.heap.size, 66, #[.int .i64 s.n, .int .i64 s.d, .string s.t]), ((w.heap.size + 1 + 1), 66, #[.int .i64 0, .int .i64 0, .string ⟨#[]⟩])]) from heldC_cons (heldC_cons (heldC_cons ⟨B3.out, (fun _ h => by cases h)⟩ K2.out) K0.out) K6.out)
  refine run_region (ops := (opsOf Try.f137 2)) (S := fun w' => HeldC w w' ([(g6, 66, #[.int .i64 d.n, .int .i64 d.d, .string d.t]), (w.heap.size, 66, #[.int .i64 s.n, .int .i64 s.d, .string s.t]), ((w.heap.size + 1 + 1), 66, #[.int .i64 0, .int .i64 0, .string ⟨#[]⟩])])) [(0, true), (1, true), (2, true), (3, false), (4, false), (5, false)] (by kernel_rfl) (by kernel_rfl) (by kernel_rfl) (by kernel_rfl) (by kernel_rfl) (fun _ _ _ _ _ h => h) (heldC_drew H.out) ?_
  have H := Lib.hid (heldC_drew H.out)
  refine runC_itm (b := w.heap.size) (show opAt (opsOf Try.f137 2) 0 = some (some 10, .load 66 (.tmp 3), none) from by kernel_rfl) (by kernel_rfl) (by kernel_rfl) (by kernel_rfl) (List.Mem.tail _ (List.Mem.head _)) ?_
  refine runC_itm (b := g6) (show opAt (opsOf Try.f137 2) 1 = some (some 11, .load 66 (.tmp 6), none) from by kernel_rfl) (by kernel_rfl) (by kernel_rfl) (by kernel_rfl) (List.Mem.head _) ?_
  refine runC_itm (b := g6) (show opAt (opsOf Try.f137 2) 2 = some (some 12, .load 66 (.tmp 6), none) from by kernel_rfl) (by kernel_rfl) (by kernel_rfl) (by kernel_rfl) (List.Mem.head _) ?_
  refine run_call (args := [.agg #[.int .i64 d.n, .int .i64 d.d, .string d.t], .agg #[.int .i64 d.n, .int .i64 d.d, .string d.t]]) (show opAt (opsOf Try.f137 2) 3 = some (some 13, .call { callee := .value (.func 127), args := [(.tmp 11), (.tmp 12)].toArray, argTypes := [66, 66].toArray }, none) from by kernel_rfl) (by kernel_rfl) (by kernel_rfl) (by kernel_rfl) (by kernel_rfl) ?_
  refine (CM.out _).mono ?_
  rintro en rw1 ⟨rfl, hb⟩
  refine ⟨_, rfl, heldC_call H.out hb, ?_⟩
  have H := Lib.hid (heldC_call H.out hb)
  clear hb
  refine run_call (args := [.agg #[.int .i64 s.n, .int .i64 s.d, .string s.t], .agg #[.int .i64 (mulI d d).n, .int .i64 (mulI d d).d, .string (mulI d d).t]]) (show opAt (opsOf Try.f137 2) 4 = some (some 14, .call { callee := .value (.func 125), args := [(.tmp 10), (.tmp 13)].toArray, argTypes := [66, 66].toArray }, none) from by kernel_rfl) (by kernel_rfl) (by kernel_rfl) (by kernel_rfl) (by kernel_rfl) ?_
  refine (CA.out _).mono ?_
  rintro en rw2 ⟨rfl, hb⟩
  refine ⟨_, rfl, heldC_call H.out hb, ?_⟩
  have H := Lib.hid (heldC_call H.out hb)
  clear hb
  refine run_last (by kernel_rfl) (show opAt (opsOf Try.f137 2) 5 = some (none, .store 66 (.tmp 5) (.tmp 14), none) from by kernel_rfl) (by kernel_rfl) (by kernel_rfl) (by kernel_rfl) (store_item (u := .int .i64 (addI s (mulI d d)).n) (v := .int .i64 (addI s (mulI d d)).d) (q := .string (addI s (mulI d d)).t) (heldC_at H.out (List.Mem.tail _ (List.Mem.tail _ (List.Mem.head _)))) rfl rfl rfl) ?_
  refine run_done ?_
  simp only [putAll, Act.put, List.setIfInBounds_toArray, List.set_cons_zero, List.set_cons_succ]
  have KZ := Lib.hid (heldC_at H.out (List.Mem.tail _ (List.Mem.tail _ (List.Mem.head _))))
  go_wp2
  exact item_row_ret rfl rfl rfl (row_set KZ.out) ⟨rfl, below_row H.out.1 (show w.heap.size ≤ w.heap.size + 1 + 1 by omega) _⟩
set_option maxHeartbeats 1000000 in
theorem implVarIt (l : List It) (sa : Option Addr) (c lo hi : Nat) (w : World) (hI : ItemsAt lo hi w sa l) (hhi : hi ≤ w.heap.size) (hn : l.length ≤ 1048576) (ht : ∀ i, i < l.length → (l.getD i noI).t.size ≤ 9223372036854775807) :
    Calls Try.prog 92 #[.slice sa l.length c] w fun e w' => e = .returned (.agg #[.int .i64 (varL l).n, .int .i64 (varL l).d, .string (varL l).t]) ∧ Below w.heap.size w w' := by
  by_cases h2 : l.length < 2
  · rw [varL_few h2]
    obtain ⟨n, hn'⟩ : ∃ n, l.length = n := ⟨_, rfl⟩
    rw [hn'] at h2 ⊢
    clear hn' hI ht
    go_enter Try.func92, Try.ntmps92
    go_wp2
    first | exact item_ret0 rfl rfl rfl (blk_new w _ rfl) ⟨rfl, below1 w _⟩ | exact item_ret rfl rfl rfl (blk_new w _ rfl) ⟨rfl, below_three (below1 w _) (Nat.le_refl _) _ _ _⟩
  · have CS := Lib.hid (fun (W : World) (hb : Below w.heap.size w W) => implMeanIt l sa c lo hi W (hI.below hb hhi) (Nat.le_trans hhi hb.size) hn ht)
    have GM := Lib.hid (good_meanL l).t0
    have EV := Lib.hid (show varL l = divI (l.foldl (sqI (meanL l)) (mkI 0 1)) ⟨((l.length - 1 : Nat) : Int), 1, ⟨#[]⟩⟩ by unfold varL; rw [mkI_int (n := ((l.length - 1 : Nat) : Int)) (by omega) (by omega)])
    have CV := Lib.hid (fun W => implDiv (l.foldl (sqI (meanL l)) (mkI 0 1)) ⟨((l.length - 1 : Nat) : Int), 1, ⟨#[]⟩⟩ W (good_fold (good_sqI (meanL l)) (good_mkI 0 1) l).t0 (Nat.zero_le _))
    rw [← EV.out] at CV
    have MK := Lib.hid (fun W => (by have h := implMake 0 1 W ⟨by omega, by omega⟩ ⟨by decide, by decide⟩; rw [mkI_int (by omega) (by omega)] at h; exact h : Calls Try.prog 133 #[.int .i64 0, .int .i64 1] W (fun e w' => e = .returned (.agg #[.int .i64 0, .int .i64 1, .string ⟨#[]⟩]) ∧ Below W.heap.size W w')))
    have CL := Lib.hid (fun W => (by have h := implMake ((l.length - 1 : Nat) : Int) 1 W ⟨by omega, by omega⟩ ⟨by decide, by decide⟩; rw [mkI_int (by omega) (by omega)] at h; exact h : Calls Try.prog 133 #[.int .i64 ((l.length - 1 : Nat) : Int), .int .i64 1] W (fun e w' => e = .returned (.agg #[.int .i64 ((l.length - 1 : Nat) : Int), .int .i64 1, .string ⟨#[]⟩]) ∧ Below W.heap.size W w')))
    obtain ⟨M, hM⟩ : ∃ Z, meanL l = Z := ⟨_, rfl⟩
    rw [hM] at CS CV GM
    have CF := Lib.hid (fun (g : Nat) (W : World) (hb : Below w.heap.size w W) (hg : W.heap[g]? = some (.cells #[.int .i64 M.n, .int .i64 M.d, .string M.t] 66 (0, 0))) => (by
      have h := implFold 137 #[.pointer (some ⟨g, 0, none⟩)] (sqI M) GoodI l (mkI 0 1) sa c lo hi W (hI.below hb hhi) (Nat.le_trans hhi hb.size) hn (by kernel_rfl) (fun x i W' hx hi hb' => implVarClo x (l.getD i noI) M g W' hx.t0 (ht i hi) GM.out (blk_below hb' hg)) (good_mkI 0 1) (fun x i _ _ => good_sqI M _ _)
      obtain ⟨Z, hZ⟩ : ∃ Z, l.foldl (sqI M) (mkI 0 1) = Z := ⟨_, rfl⟩
      rw [hZ, mkI_int (by omega) (by omega)] at h
      rw [hZ]
      exact h : Calls Try.prog 132 #[.slice sa l.length c, .agg #[.int .i64 0, .int .i64 1, .string ⟨#[]⟩], .func (.func 137) #[] #[.pointer (some ⟨g, 0, none⟩)]] W (fun e w' => e = .returned (.agg #[.int .i64 (l.foldl (sqI M) (mkI 0 1)).n, .int .i64 (l.foldl (sqI M) (mkI 0 1)).d, .string (l.foldl (sqI M) (mkI 0 1)).t]) ∧ Below W.heap.size W w')))
    obtain ⟨Z, hZ⟩ : ∃ Z, l.foldl (sqI M) (mkI 0 1) = Z := ⟨_, rfl⟩
    rw [hZ] at CF CV
    obtain ⟨V, hV⟩ : ∃ V, varL l = V := ⟨_, rfl⟩
    rw [hV] at CV ⊢
    obtain ⟨n, hn'⟩ : ∃ n, l.length = n := ⟨_, rfl⟩
    rw [hn'] at CS CF CV CL hn h2 ⊢
    clear hn' hI ht hV hZ hM EV
    go_enter Try.func92, Try.ntmps92
    go_wp2_with fail
    with_reducible refine (CS.out _ (below1 w _)).mono ?_
    rintro e w1 ⟨rfl, b⟩
    have B1 := Lib.hid (below_then (below1 w _) b)
    have KZ := Lib.hid (blk_below b (blk_new w _ rfl))
    clear b
    go_wp2_with fail
    obtain ⟨w2, hw2⟩ : ∃ W, w1.alloc (.cells #[.int .i64 M.n, .int .i64 M.d, .string M.t] 66) = W := ⟨_, rfl⟩
    have B2 := Lib.hid (show Below w.heap.size w w2 from hw2 ▸ B1.out.alloc B1.out.size _)
    have K3 := Lib.hid (show w2.heap[w1.heap.size]? = some (.cells #[.int .i64 M.n, .int .i64 M.d, .string M.t] 66 (0, 0)) from hw2 ▸ blk_new w1 _ rfl)
    have KZ := Lib.hid (show w2.heap[w.heap.size]? = some (.cells #[.int .i64 0, .int .i64 0, .string ⟨#[]⟩] 66 (0, 0)) from hw2 ▸ blk_old KZ.out)
    rw [hw2]
    clear hw2
    obtain ⟨g3, hg3⟩ : ∃ g, w1.heap.size = g := ⟨_, rfl⟩
    rw [hg3] at K3 ⊢
    clear hg3
    with_reducible refine (MK.out _).mono ?_
    rintro e w3 ⟨rfl, b⟩
    have B3 := Lib.hid (below_then B2.out b)
    have KZ := Lib.hid (blk_below b KZ.out)
    have K3 := Lib.hid (blk_below b K3.out)
    clear b
    go_wp2_with fail
    with_reducible refine (CF.out g3 _ B3.out K3.out).mono ?_
    rintro e w4 ⟨rfl, b⟩
    have B4 := Lib.hid (below_then B3.out b)
    have KZ := Lib.hid (blk_below b KZ.out)
    clear b
    go_upto_region 5 with (fail)
    obtain ⟨w5, hw5⟩ : ∃ W, w4.alloc (.cells #[.int .i64 Z.n, .int .i64 Z.d, .string Z.t] 66) = W := ⟨_, rfl⟩
    have B5 := Lib.hid (show Below w.heap.size w w5 from hw5 ▸ B4.out.alloc B4.out.size _)
    have K4 := Lib.hid (show w5.heap[w4.heap.size]? = some (.cells #[.int .i64 Z.n, .int .i64 Z.d, .string Z.t] 66 (0, 0)) from hw5 ▸ blk_new w4 _ rfl)
    have KZ := Lib.hid (show w5.heap[w.heap.size]? = some (.cells #[.int .i64 0, .int .i64 0, .string ⟨#[]⟩] 66 (0, 0)) from hw5 ▸ blk_old KZ.out)
    rw [hw5]
    clear hw5
    obtain ⟨g4, hg4⟩ : ∃ g, w4.heap.size = g := ⟨_, rfl⟩
    rw [hg4] at K4 ⊢
    clear hg4
    have H := Lib.hid (show HeldC w w5 ([(g4, 66, #[.int .i64 Z.n, .int .i64 Z.d, .string Z.t]), (w.heap.size, 66, #[.int .i64 0, .int .i64 0, .string ⟨#[]⟩])]) from heldC_cons (heldC_cons ⟨B5.out, (fun _ h => by cases h)⟩ KZ.out) K4.out)
    refine run_region (ops := (opsOf Try.f92 5)) (S := fun w' => HeldC w w' ([(g4, 66, #[.int .i64 Z.n, .int .i64 Z.d, .string Z.t]), (w.heap.size, 66, #[.int .i64 0, .int .i64 0, .string ⟨#[]⟩])])) [(0, true), (1, true), (2, true), (3, true), (4, false), (5, false), (6, false)] (by kernel_rfl) (by kernel_rfl) (by kernel_rfl) (by kernel_rfl) (by kernel_rfl) (fun _ _ _ _ _ h => h) (heldC_drew H.out) ?_
    have H := Lib.hid (heldC_drew H.out)
    refine runC_itm (b := g4) (show opAt (opsOf Try.f92 5) 0 = some (some 15, .load 66 (.tmp 4), none) from by kernel_rfl) (by kernel_rfl) (by kernel_rfl) (by kernel_rfl) (List.Mem.head _) ?_
    refine run_mov (v := .slice sa n c) (show opAt (opsOf Try.f92 5) 1 = some (some 16, .move (.tmp 0), none) from by kernel_rfl) (by kernel_rfl) (by kernel_rfl) (by kernel_rfl) ?_
    refine run_len (b := sa) (n := n) (c := c) (show opAt (opsOf Try.f92 5) 2 = some (some 17, .call { callee := .builtin .len, args := [(.tmp 16)].toArray, argTypes := [28].toArray }, none) from by kernel_rfl) (by kernel_rfl) (by kernel_rfl) (by kernel_rfl) (by kernel_rfl) ?_
    refine run_sub (k := .i64) (p := (n : Int)) (q := 1) (z := ((n - 1 : Nat) : Int)) (show opAt (opsOf Try.f92 5) 3 = some (some 18, .binOp .sub 3 (.tmp 17) (.const (.int .i64 1)) 3, none) from by kernel_rfl) (by kernel_rfl) (by kernel_rfl) (by kernel_rfl) (by kernel_rfl) ((wrap64_id (by omega) (by omega)).trans (by omega)) ?_
    refine run_call (args := [.int .i64 (((n - 1 : Nat) : Int)), .int .i64 1]) (show opAt (opsOf Try.f92 5) 4 = some (some 19, .call { callee := .value (.func 133), args := [(.tmp 18), (.const (.int .i64 1))].toArray, argTypes := [3, 3].toArray }, none) from by kernel_rfl) (by kernel_rfl) (by kernel_rfl) (by kernel_rfl) (by kernel_rfl) ?_
    refine (CL.out _).mono ?_
    rintro en rw1 ⟨rfl, hb⟩
    refine ⟨_, rfl, heldC_call H.out hb, ?_⟩
    have H := Lib.hid (heldC_call H.out hb)
    clear hb
    refine run_call (args := [.agg #[.int .i64 Z.n, .int .i64 Z.d, .string Z.t], .agg #[.int .i64 ((n - 1 : Nat) : Int), .int .i64 1, .string ⟨#[]⟩]]) (show opAt (opsOf Try.f92 5) 5 = some (some 20, .call { callee := .value (.func 128), args := [(.tmp 15), (.tmp 19)].toArray, argTypes := [66, 66].toArray }, none) from by kernel_rfl) (by kernel_rfl) (by kernel_rfl) (by kernel_rfl) (by kernel_rfl) ?_
    refine (CV.out _).mono ?_
    rintro en rw2 ⟨rfl, hb⟩
    refine ⟨_, rfl, heldC_call H.out hb, ?_⟩
    have H := Lib.hid (heldC_call H.out hb)
    clear hb
    refine run_last (by kernel_rfl) (show opAt (opsOf Try.f92 5) 6 = some (none, .store 66 (.tmp 2) (.tmp 20), none) from by kernel_rfl) (by kernel_rfl) (by kernel_rfl) (by kernel_rfl) (store_item (u := .int .i64 V.n) (v := .int .i64 V.d) (q := .string V.t) (heldC_at H.out (List.Mem.tail _ (List.Mem.head _))) rfl rfl rfl) ?_
    refine run_done ?_
    simp only [putAll, Act.put, List.setIfInBounds_toArray, List.set_cons_zero, List.set_cons_succ]
    have KZ := Lib.hid (heldC_at H.out (List.Mem.tail _ (List.Mem.head _)))
    go_wp2
    exact item_row_ret rfl rfl rfl (row_set KZ.out) ⟨rfl, below_row H.out.1 (Nat.le_refl _) _⟩
set_option maxHeartbeats 2000000 in
theorem implSmyVar (d : Nat) (v : Vec) (val : Value) (drop : Bool) (lo hi : Nat) (w : World) (hv : VecAt lo hi w d v val) (hhi : hi ≤ w.heap.size) (hsm : Small d v) :
    Calls Try.prog 83 #[val, .bool drop, .func (.func 92) #[] #[]] w (ResVS 1 (smyV varL drop v) (smyS nonNumB v) w) := by
  have C1 := Lib.hid (fun (w1 : World) (hb : Below w.heap.size w w1) => implTaken d v val drop nonNumB nonNum_ne lo hi w1 (hv.below hb hhi) (Nat.le_trans hhi hb.size) hsm)
  obtain ⟨VV, hVV⟩ : ∃ V, v = V := ⟨_, rfl⟩
  rw [hVV] at C1 ⊢
  obtain ⟨kk, items, parts, names, cls, levels, code, env⟩ := v
  obtain ⟨d', ai, ci, ap, cp, an, cn, ac, cc, al, cl, ed, rfl, hI, hN, hC, hL, hP⟩ := vecAt_open hv
  clear hv hI hN hC hL hP hsm ed hVV
  go_enter Try.func83, Try.ntmps83
  go_wp2_with fail
  obtain ⟨w1, hw1⟩ : ∃ W, (w.alloc (.cells #[.int .i64 kk, .slice ai items.length ci, .slice ap parts.length cp, .slice an names.length cn, .slice ac cls.length cc, .slice al levels.length cl, .int .i64 code, .int .i64 env] 31)).alloc (.cells #[.int .i64 0, .slice none 0 0, .slice none 0 0, .slice none 0 0, .slice none 0 0, .slice none 0 0, .int .i64 0, .int .i64 0] 31) = W := ⟨_, rfl⟩
  have hsz : (w.alloc (.cells #[.int .i64 kk, .slice ai items.length ci, .slice ap parts.length cp, .slice an names.length cn, .slice ac cls.length cc, .slice al levels.length cl, .int .i64 code, .int .i64 env] 31)).heap.size = w.heap.size + 1 := by simp
  have B1 := Lib.hid (show Below w.heap.size w w1 from hw1 ▸ (below1 w _).alloc (by simp) _)
  have KA := Lib.hid (show w1.heap[w.heap.size]? = some (.cells #[.int .i64 kk, .slice ai items.length ci, .slice ap parts.length cp, .slice an names.length cn, .slice ac cls.length cc, .slice al levels.length cl, .int .i64 code, .int .i64 env] 31 (0, 0)) from hw1 ▸ blk_old (blk_new w _ rfl))
  have KR := Lib.hid (show w1.heap[w.heap.size + 1]? = some (.cells #[.int .i64 0, .slice none 0 0, .slice none 0 0, .slice none 0 0, .slice none 0 0, .slice none 0 0, .int .i64 0, .int .i64 0] 31 (0, 0)) from hw1 ▸ hsz ▸ blk_new (w.alloc (.cells #[.int .i64 kk, .slice ai items.length ci, .slice ap parts.length cp, .slice an names.length cn, .slice ac cls.length cc, .slice al levels.length cl, .int .i64 code, .int .i64 env] 31)) (.cells #[.int .i64 0, .slice none 0 0, .slice none 0 0, .slice none 0 0, .slice none 0 0, .slice none 0 0, .int .i64 0, .int .i64 0] 31) rfl)
  rw [hw1]
  clear hw1 hsz
  refine (C1.out _ B1.out).mono ?_
  rintro e w2 ⟨sa, n, c, rfl, hln, hit, b⟩
  have B2 := Lib.hid (below_then B1.out b)
  have KR := Lib.hid (blk_below b KR.out)
  clear b
  by_cases hs : smyS nonNumB VV = ⟨#[]⟩
  · have XV := Lib.hid (smy_val nonNum_ne hs varL drop)
    have CS := Lib.hid (implVarIt (smyL drop VV) sa c 0 w2.heap.size w2 hit (Nat.le_refl _) (by have := smyL_len drop VV; omega) (fun i _ => (smyL_at drop VV i).t0))
    rw [← hln] at CS
    rw [hs]
    have hs' := hs
    obtain ⟨z, hz⟩ : ∃ z, varL (smyL drop VV) = z := ⟨_, rfl⟩
    rw [hz] at XV CS
    clear hz hs hit hln
    go_wp2_with fail
    with_reducible refine CS.out.mono ?_
    rintro e w3 ⟨rfl, b⟩
    have B3 := Lib.hid (below_then B2.out b)
    have KR := Lib.hid (blk_below b KR.out)
    clear b
    have hr3 := (Array.getElem?_eq_some_iff.1 KR.out).1
    obtain ⟨z0, z1, z2, z3, z4, z5, z6, z7⟩ := vec8 KR.out
    obtain ⟨f0, f1, f2, f3, f4, f5, f6, f7⟩ := free8 KR.out
    have XS := Lib.hid hs'
    clear hs'
    go_wp2
    rw [XV.out, XS.out]
    exact vec_oneS rfl rfl rfl rfl KR.out B3.out (Nat.le_succ _)
  · have XV := Lib.hid (smy_not hs varL drop).1
    obtain ⟨R, hR⟩ : ∃ R, smyS nonNumB VV = R := ⟨_, rfl⟩
    have XS := Lib.hid hR
    rw [hR] at hs ⊢
    have hRb : (R.toList == []) = false := by have h := str_not hs; rw [ByteArray.toList_eq ⟨#[]⟩] at h; exact h
    clear hs hR
    obtain ⟨z0, z1, z2, z3, z4, z5, z6, z7⟩ := vec8 KR.out
    obtain ⟨f0, f1, f2, f3, f4, f5, f6, f7⟩ := free8 KR.out
    go_wp2
    rw [XV.out, XS.out]
    exact vec_endS rfl rfl rfl rfl KR.out (zeroS _ w _ (put8_below B2.out (Nat.le_succ _)))
set_option maxHeartbeats 1000000 in
theorem implVarianceOf (d : Nat) (v : Vec) (val : Value) (drop : Bool) (lo hi : Nat) (w : World) (hv : VecAt lo hi w d v val) (hhi : hi ≤ w.heap.size) (hsm : Small d v) :
    Calls Try.prog 32 #[val, .bool drop] w (ResVS 1 (smyV varL drop v) (smyS nonNumB v) w) := by
  have C1 := Lib.hid (fun (w1 : World) (hb : Below w.heap.size w w1) => implSmyVar d v val drop lo hi w1 (hv.below hb hhi) (Nat.le_trans hhi hb.size) hsm)
  obtain ⟨VV, hVV⟩ : ∃ V, v = V := ⟨_, rfl⟩
  rw [hVV] at C1 ⊢
  obtain ⟨kk, items, parts, names, cls, levels, code, env⟩ := v
  obtain ⟨d', ai, ci, ap, cp, an, cn, ac, cc, al, cl, ed, rfl, hI, hN, hC, hL, hP⟩ := vecAt_open hv
  clear hv hI hN hC hL hP hsm ed hVV
  go_enter Try.func32, Try.ntmps32
  go_wp2_with fail
  obtain ⟨w1, hw1⟩ : ∃ W, (w.alloc (.cells #[.int .i64 kk, .slice ai items.length ci, .slice ap parts.length cp, .slice an names.length cn, .slice ac cls.length cc, .slice al levels.length cl, .int .i64 code, .int .i64 env] 31)).alloc (.cells #[.int .i64 0, .slice none 0 0, .slice none 0 0, .slice none 0 0, .slice none 0 0, .slice none 0 0, .int .i64 0, .int .i64 0] 31) = W := ⟨_, rfl⟩
  have hsz : (w.alloc (.cells #[.int .i64 kk, .slice ai items.length ci, .slice ap parts.length cp, .slice an names.length cn, .slice ac cls.length cc, .slice al levels.length cl, .int .i64 code, .int .i64 env] 31)).heap.size = w.heap.size + 1 := by simp
  have B1 := Lib.hid (show Below w.heap.size w w1 from hw1 ▸ (below1 w _).alloc (by simp) _)
  have KA := Lib.hid (show w1.heap[w.heap.size]? = some (.cells #[.int .i64 kk, .slice ai items.length ci, .slice ap parts.length cp, .slice an names.length cn, .slice ac cls.length cc, .slice al levels.length cl, .int .i64 code, .int .i64 env] 31 (0, 0)) from hw1 ▸ blk_old (blk_new w _ rfl))
  have KR := Lib.hid (show w1.heap[w.heap.size + 1]? = some (.cells #[.int .i64 0, .slice none 0 0, .slice none 0 0, .slice none 0 0, .slice none 0 0, .slice none 0 0, .int .i64 0, .int .i64 0] 31 (0, 0)) from hw1 ▸ hsz ▸ blk_new (w.alloc (.cells #[.int .i64 kk, .slice ai items.length ci, .slice ap parts.length cp, .slice an names.length cn, .slice ac cls.length cc, .slice al levels.length cl, .int .i64 code, .int .i64 env] 31)) (.cells #[.int .i64 0, .slice none 0 0, .slice none 0 0, .slice none 0 0, .slice none 0 0, .slice none 0 0, .int .i64 0, .int .i64 0] 31) rfl)
  rw [hw1]
  clear hw1 hsz
  with_reducible refine (C1.out _ B1.out).mono ?_
  rintro e w2 ⟨y, rfl, ho, b⟩
  obtain ⟨yk, ya1, yn1, ym1, ya2, yn2, ym2, ya3, yn3, ym3, ya4, yn4, ym4, ya5, yn5, ym5, yc, ye, rfl⟩ := ho.agg
  have B2 := Lib.hid (below_then B1.out b)
  have KR1 := Lib.hid KR.out
  have hr1 := (Array.getElem?_eq_some_iff.1 KR.out).1
  have KR := Lib.hid (blk_below b KR.out)
  have HO := Lib.hid ho
  clear ho b
  obtain ⟨z0, z1, z2, z3, z4, z5, z6, z7⟩ := vec8 KR.out
  obtain ⟨f0, f1, f2, f3, f4, f5, f6, f7⟩ := free8 KR.out
  go_wp2
  exact vec_endS rfl rfl rfl rfl KR.out ⟨_, rfl, (HO.out.put8 hr1 _ _ _ _ _ _ _ _).wide (by omega) (by rw [put8_size]; exact Nat.le_refl _), put8_below B2.out (Nat.le_succ _)⟩
end Go.Proofs.Ytlnjjjoeblopeaa

/- LogicOf as data. -/
namespace Go.Proofs.Ytlnjjjoeblopeaa
open Go.RowKit
set_option maxRecDepth 100000
set_option linter.unusedVariables false

def andB : ByteArray := ⟨#[38]⟩
def orB : ByteArray := ⟨#[124]⟩
/-- "unknown operator" -/
def unkB : ByteArray := ⟨#[117, 110, 107, 110, 111, 119, 110, 32, 111, 112, 101, 114, 97, 116, 111, 114]⟩
/-- "lengths do not match" -/
def lenB : ByteArray := ⟨#[108, 101, 110, 103, 116, 104, 115, 32, 100, 111, 32, 110, 111, 116, 32, 109, 97, 116, 99, 104]⟩
noncomputable def connL (op : ByteArray) (x y : Int) : Int := match bB (op = andB) with | true => aL x y | false => oL x y
def itL (v : Vec) : Nat := (itemsV v).length
def lgcN (a b : Vec) : Int := sizeL (itL a) (itL b)
noncomputable def lgcF (op : ByteArray) (a b : Vec) (i : Nat) : Int := connL op (truthI ((itemsV a).getD (i % itL a) noI)) (truthI ((itemsV b).getD (i % itL b) noI))
noncomputable def lgcS (op : ByteArray) (a b : Vec) : ByteArray := match bB (ValidV a ∧ ValidV b) with
  | false => badB
  | true => match bB (op = andB ∨ op = orB) with
    | false => unkB
    | true => match bB (Counts a ∧ Counts b) with
      | false => nonLogB
      | true => match bB (0 ≤ lgcN a b) with | false => lenB | true => ⟨#[]⟩
noncomputable def lgcV (op : ByteArray) (a b : Vec) : Vec := match bB (ValidV a ∧ ValidV b) with
  | false => noV
  | true => match bB (op = andB ∨ op = orB) with
    | false => noV
    | true => match bB (Counts a ∧ Counts b) with
      | false => noV
      | true => match bB (0 ≤ lgcN a b) with | false => noV | true => mkN 1 (itF (fun i => logI (lgcF op a b i)) (lgcN a b).toNat) (namesL (itL a) (itL b) (lgcN a b).toNat (namesV a) (namesV b))
theorem lgc_bad {op : ByteArray} {a b : Vec} (h : ¬ (ValidV a ∧ ValidV b)) : lgcV op a b = noV ∧ lgcS op a b = badB := by unfold lgcV lgcS; rw [bB_no h]; exact ⟨rfl, rfl⟩
theorem lgc_unk {op : ByteArray} {a b : Vec} (h : ValidV a ∧ ValidV b) (ho : ¬ (op = andB ∨ op = orB)) : lgcV op a b = noV ∧ lgcS op a b = unkB := by unfold lgcV lgcS; rw [bB_yes h, bB_no ho]; exact ⟨rfl, rfl⟩
theorem lgc_non {op : ByteArray} {a b : Vec} (h : ValidV a ∧ ValidV b) (ho : op = andB ∨ op = orB) (hc : ¬ (Counts a ∧ Counts b)) : lgcV op a b = noV ∧ lgcS op a b = nonLogB := by unfold lgcV lgcS; rw [bB_yes h, bB_yes ho, bB_no hc]; exact ⟨rfl, rfl⟩
theorem lgc_len {op : ByteArray} {a b : Vec} (h : ValidV a ∧ ValidV b) (ho : op = andB ∨ op = orB) (hc : Counts a ∧ Counts b) (hn : ¬ 0 ≤ lgcN a b) : lgcV op a b = noV ∧ lgcS op a b = lenB := by unfold lgcV lgcS; rw [bB_yes h, bB_yes ho, bB_yes hc, bB_no hn]; exact ⟨rfl, rfl⟩
theorem lgc_yes {op : ByteArray} {a b : Vec} (h : ValidV a ∧ ValidV b) (ho : op = andB ∨ op = orB) (hc : Counts a ∧ Counts b) (hn : 0 ≤ lgcN a b) : lgcV op a b = mkN 1 (itF (fun i => logI (lgcF op a b i)) (lgcN a b).toNat) (namesL (itL a) (itL b) (lgcN a b).toNat (namesV a) (namesV b)) ∧ lgcS op a b = ⟨#[]⟩ := by
  unfold lgcV lgcS; rw [bB_yes h, bB_yes ho, bB_yes hc, bB_yes hn]; exact ⟨rfl, rfl⟩
theorem conn_and (x y : Int) : connL ⟨#[38]⟩ x y = aL x y := by unfold connL; rw [bB_yes (show (⟨#[38]⟩ : ByteArray) = andB from rfl)]
theorem conn_or {op : ByteArray} (h : ¬ op = ⟨#[38]⟩) (x y : Int) : connL op x y = oL x y := by unfold connL; rw [bB_no (show ¬ op = andB from h)]
noncomputable def cntL (v : Vec) : Nat := match bB (Counts v) with | true => itL v | false => 0
theorem cntL_yes {v : Vec} (h : Counts v) : cntL v = itL v := by unfold cntL; rw [bB_yes h]
theorem cntL_no {v : Vec} (h : ¬ Counts v) : cntL v = 0 := by unfold cntL; rw [bB_no h]
theorem itL_le {v : Vec} (h : ValidV v) (hc : Counts v) : itL v ≤ 40 := by obtain ⟨k, items, parts, names, cls, levels, code, env⟩ := v; exact count_len h hc
theorem cntL_le {v : Vec} (h : ValidV v) : cntL v ≤ 40 := by
  by_cases hc : Counts v
  · rw [cntL_yes hc]; exact itL_le h hc
  · rw [cntL_no hc]; omega
theorem len_counts {k : Int} {items : List It} {parts : List Vec} {names cls levels : List ByteArray} {code env : Int} (h : ValidV (.mk k items parts names cls levels code env)) (hc : Counts (.mk k items parts names cls levels code env)) : lenV k items.length parts.length = items.length := by
  have hf : FlatOk k items parts.length names cls levels code env := h.1.flat
  have hk : k ≤ 2 := hc.1
  unfold lenV
  rw [if_neg (by omega), hf.h_noParts (by omega)]
  omega
theorem specLogU (d : Nat) (v : Vec) (val : Value) (lo hi : Nat) (w : World) (hv : VecAt lo hi w d v val) (hhi : hi ≤ w.heap.size) (hsm : Small d v) (hval : ValidV v) :
    Calls Try.prog 46 #[val] w fun e w' => ∃ sa c, e = .returned (.tuple #[.slice sa (cntL v) c, .bool (bB (Counts v))]) ∧ (Counts v → w'.ownsRow w.heap.size 3 1 (.slice sa (cntL v) c) (cntL v) (intsF (fun i => truthI ((itemsV v).getD i noI)) (cntL v))) ∧ Below w.heap.size w w' := by
  obtain ⟨k, items, parts, names, cls, levels, code, env⟩ := v
  obtain ⟨d', ai, ci, ap, cp, an, cn, ac, cc, al, cl, ed, rfl, hI, hN, hC, hL, hP⟩ := vecAt_open hv
  have li : items.length ≤ 1048576 := by subst ed; exact hsm.1
  by_cases hc : Counts (.mk k items parts names cls levels code env)
  · rw [cntL_yes hc, bB_yes hc]
    refine (specLogY k items ai ap an ac al ci parts.length cp names.length cn cls.length cc levels.length cl code env lo hi w hI hhi hc.1 hc.2 li (fun i hi => num_at hval hc hi)).mono ?_
    rintro e w' ⟨sa, c, rfl, hr, hb⟩
    exact ⟨sa, c, rfl, fun _ => hr, hb⟩
  · rw [cntL_no hc, bB_no hc]
    refine (specLogN k ai ap an ac al items.length ci parts.length cp names.length cn cls.length cc levels.length cl code env w hc).mono ?_
    rintro e w' ⟨⟨sa, c, rfl⟩, hb⟩
    exact ⟨sa, c, rfl, fun h => absurd h hc, hb⟩
theorem str_ne {x y : ByteArray} (h : ¬ x = y) : (x.toList == y.toList) = false := by
  rw [beq_eq_false_iff_ne]
  intro e
  apply h
  rw [ByteArray.toList_eq, ByteArray.toList_eq] at e
  apply ByteArray.ext
  exact Array.toList_inj.1 e
theorem sizeL_le {m n : Nat} (hm : m ≤ 40) (hn : n ≤ 40) : sizeL m n ≤ 40 := by
  unfold sizeL
  split
  · omega
  · split <;> omega
theorem sizeL_pos {m n : Nat} (h : 0 < sizeL m n) : 0 < m ∧ 0 < n := by
  unfold sizeL at h
  by_cases h0 : m = 0 ∨ n = 0
  · rw [if_pos h0] at h; omega
  · omega
end Go.Proofs.Ytlnjjjoeblopeaa

/- Whether operands suit an operator, in the program. -/
namespace Go.Proofs.Ytlnjjjoeblopeaa
open Go.RowKit
set_option maxRecDepth 100000
set_option linter.unusedVariables false

def matchL (m n : Nat) : Prop := 0 ≤ sizeL m n
theorem implMatch (k0 : Int) (ai0 ap0 an0 ac0 al0 : Option Addr) (n0 ci0 np0 cp0 nn0 cn0 nc0 cc0 nl0 cl0 : Nat) (code0 env0 : Int) (k1 : Int) (ai1 ap1 an1 ac1 al1 : Option Addr) (n1 ci1 np1 cp1 nn1 cn1 nc1 cc1 nl1 cl1 : Nat) (code1 env1 : Int) (w : World) (hm : n0 ≤ 1048576) (hn : n1 ≤ 1048576) :
    Calls Try.prog 117 #[.agg #[.int .i64 k0, .slice ai0 n0 ci0, .slice ap0 np0 cp0, .slice an0 nn0 cn0, .slice ac0 nc0 cc0, .slice al0 nl0 cl0, .int .i64 code0, .int .i64 env0], .agg #[.int .i64 k1, .slice ai1 n1 ci1, .slice ap1 np1 cp1, .slice an1 nn1 cn1, .slice ac1 nc1 cc1, .slice al1 nl1 cl1, .int .i64 code1, .int .i64 env1]] w fun e w' => e = .returned (.bool (bB (matchL n0 n1))) ∧ Below w.heap.size w w' := by
  by_cases h0 : n0 = 0 ∨ n1 = 0
  · have X := Lib.hid (show matchL n0 n1 by unfold matchL sizeL; rw [if_pos h0]; decide)
    by_cases hm0 : n0 = 0
    · subst hm0
      clear h0
      go_enter Try.func117, Try.ntmps117
      go_wp2
      all_goals (go_ret; exact ⟨ret_yes X.out, below2 _ _ _⟩)
    · obtain rfl : n1 = 0 := by omega
      have hmp : 0 < n0 := by omega
      clear h0
      go_enter Try.func117, Try.ntmps117
      go_wp2
      go_ret
      exact ⟨ret_yes X.out, below2 _ _ _⟩
  · have hmb : ((n0 : Int) == 0) = false := beq_eq_false_iff_ne.2 (by omega)
    have hnb : ((n1 : Int) == 0) = false := beq_eq_false_iff_ne.2 (by omega)
    have hmp : 0 < n0 := by omega
    have hnp : 0 < n1 := by omega
    rcases Nat.lt_trichotomy n0 n1 with hle | hle | hle
    · have XX := Lib.hid (show sizeL n0 n1 = if n1 % n0 ≠ 0 then -1 else ((n1 : Nat) : Int) by unfold sizeL; rw [if_neg h0, Nat.max_eq_right (Nat.le_of_lt hle), Nat.min_eq_left (Nat.le_of_lt hle)])
      have R : (n1 : Int) % n0 = ((n1 % n0 : Nat) : Int) := rfl
      obtain ⟨r, hr⟩ : ∃ r, n1 % n0 = r := ⟨_, rfl⟩
      rw [hr] at XX R
      clear h0 hr
      by_cases hr : r = 0
      · subst hr
        have X := Lib.hid (show matchL n0 n1 by unfold matchL; rw [XX.out, if_neg (by omega)]; omega)
        go_enter Try.func117, Try.ntmps117
        go_wp2
        go_ret
        exact ⟨ret_yes X.out, below2 _ _ _⟩
      · have X := Lib.hid (show ¬ matchL n0 n1 by unfold matchL; rw [XX.out, if_pos hr]; decide)
        have hrb : ((r : Int) == 0) = false := beq_eq_false_iff_ne.2 (by omega)
        go_enter Try.func117, Try.ntmps117
        go_wp2
        go_ret
        exact ⟨ret_no X.out, below2 _ _ _⟩
    · subst hle
      have X := Lib.hid (show matchL n0 n0 by unfold matchL sizeL; rw [if_neg h0, Nat.max_self, Nat.min_self, Nat.mod_self, if_neg (by omega)]; omega)
      clear h0 hnb hnp
      go_enter Try.func117, Try.ntmps117
      go_wp2
      go_ret
      exact ⟨ret_yes X.out, below2 _ _ _⟩
    · have XX := Lib.hid (show sizeL n0 n1 = if n0 % n1 ≠ 0 then -1 else ((n0 : Nat) : Int) by unfold sizeL; rw [if_neg h0, Nat.max_eq_left (Nat.le_of_lt hle), Nat.min_eq_right (Nat.le_of_lt hle)])
      have R : (n0 : Int) % n1 = ((n0 % n1 : Nat) : Int) := rfl
      obtain ⟨r, hr⟩ : ∃ r, n0 % n1 = r := ⟨_, rfl⟩
      rw [hr] at XX R
      clear h0 hr
      by_cases hr : r = 0
      · subst hr
        have X := Lib.hid (show matchL n0 n1 by unfold matchL; rw [XX.out, if_neg (by omega)]; omega)
        go_enter Try.func117, Try.ntmps117
        go_wp2
        go_ret
        exact ⟨ret_yes X.out, below2 _ _ _⟩
      · have X := Lib.hid (show ¬ matchL n0 n1 by unfold matchL; rw [XX.out, if_pos hr]; decide)
        have hrb : ((r : Int) == 0) = false := beq_eq_false_iff_ne.2 (by omega)
        go_enter Try.func117, Try.ntmps117
        go_wp2
        go_ret
        exact ⟨ret_no X.out, below2 _ _ _⟩
theorem implAre (d0 d1 : Nat) (a b : Vec) (k0 : Int) (ai0 ap0 an0 ac0 al0 : Option Addr) (n0 ci0 np0 cp0 nn0 cn0 nc0 cc0 nl0 cl0 : Nat) (code0 env0 : Int) (k1 : Int) (ai1 ap1 an1 ac1 al1 : Option Addr) (n1 ci1 np1 cp1 nn1 cn1 nc1 cc1 nl1 cl1 : Nat) (code1 env1 : Int) (g lo hi : Nat) (w : World) (h0 : VecAt lo hi w d0 a (.agg #[.int .i64 k0, .slice ai0 n0 ci0, .slice ap0 np0 cp0, .slice an0 nn0 cn0, .slice ac0 nc0 cc0, .slice al0 nl0 cl0, .int .i64 code0, .int .i64 env0])) (h1 : VecAt lo hi w d1 b (.agg #[.int .i64 k1, .slice ai1 n1 ci1, .slice ap1 np1 cp1, .slice an1 nn1 cn1, .slice ac1 nc1 cc1, .slice al1 nl1 cl1, .int .i64 code1, .int .i64 env1])) (hhi : hi ≤ w.heap.size) (hsm0 : Small d0 a) (hsm1 : Small d1 b)
    (hg : w.heap[g]? = some (.cells #[.int .i64 k0, .slice ai0 n0 ci0, .slice ap0 np0 cp0, .slice an0 nn0 cn0, .slice ac0 nc0 cc0, .slice al0 nl0 cl0, .int .i64 code0, .int .i64 env0, .int .i64 k1, .slice ai1 n1 ci1, .slice ap1 np1 cp1, .slice an1 nn1 cn1, .slice ac1 nc1 cc1, .slice al1 nl1 cl1, .int .i64 code1, .int .i64 env1] 31 (0, 0))) :
    Calls Try.prog 116 #[.slice (some ⟨g, 0, none⟩) 2 2] w fun e w' => e = .returned (.bool (bB (ValidV a ∧ ValidV b))) ∧ Below w.heap.size w w' := by
  have CA := Lib.hid (fun (w1 : World) (hb : Below w.heap.size w w1) => implIsVector d0 a (.agg #[.int .i64 k0, .slice ai0 n0 ci0, .slice ap0 np0 cp0, .slice an0 nn0 cn0, .slice ac0 nc0 cc0, .slice al0 nl0 cl0, .int .i64 code0, .int .i64 env0]) lo hi w1 (h0.below hb hhi) (Nat.le_trans hhi hb.size) hsm0)
  have CB := Lib.hid (fun (w1 : World) (hb : Below w.heap.size w w1) => implIsVector d1 b (.agg #[.int .i64 k1, .slice ai1 n1 ci1, .slice ap1 np1 cp1, .slice an1 nn1 cn1, .slice ac1 nc1 cc1, .slice al1 nl1 cl1, .int .i64 code1, .int .i64 env1]) lo hi w1 (h1.below hb hhi) (Nat.le_trans hhi hb.size) hsm1)
  have KG := Lib.hid hg
  have hgw := (Array.getElem?_eq_some_iff.1 hg).1
  clear h0 h1 hsm0 hsm1 hg
  go_enter Try.func116, Try.ntmps116
  go_wp2
  go_loopw [7] (fun i wr => ∃ k : Nat, k ≤ 2 ∧ i = .int .i64 k ∧ (0 < k → ValidV a) ∧ (1 < k → ValidV b) ∧ Below w.heap.size w wr) (fun i _ => 2 - (intOf i).toNat)
  case atStart => exact ⟨0, by omega, rfl, fun h => absurd h (by omega), fun h => absurd h (by omega), Below.refl _ _⟩
  case round =>
    obtain ⟨k, hk, rfl, ha, hb, hbw⟩ := hrel
    have BW := Lib.hid hbw
    have KGW := Lib.hid (blk_below hbw KG.out)
    have PA := Lib.hid ha
    have PB := Lib.hid hb
    clear hbw ha hb
    have hgr := (Array.getElem?_eq_some_iff.1 KGW.out).1
    rcases (show k = 0 ∨ k = 1 ∨ k = 2 by omega) with rfl | rfl | rfl
    · have g0 : wr.cell? ⟨g, 0, none⟩ = some (.int .i64 k0) := cellOf KGW.out rfl
      have g1 : wr.cell? ⟨g, 1, none⟩ = some (.slice ai0 n0 ci0) := cellOf KGW.out rfl
      have g2 : wr.cell? ⟨g, 2, none⟩ = some (.slice ap0 np0 cp0) := cellOf KGW.out rfl
      have g3 : wr.cell? ⟨g, 3, none⟩ = some (.slice an0 nn0 cn0) := cellOf KGW.out rfl
      have g4 : wr.cell? ⟨g, 4, none⟩ = some (.slice ac0 nc0 cc0) := cellOf KGW.out rfl
      have g5 : wr.cell? ⟨g, 5, none⟩ = some (.slice al0 nl0 cl0) := cellOf KGW.out rfl
      have g6 : wr.cell? ⟨g, 6, none⟩ = some (.int .i64 code0) := cellOf KGW.out rfl
      have g7 : wr.cell? ⟨g, 7, none⟩ = some (.int .i64 env0) := cellOf KGW.out rfl
      go_wp2_with fail
      with_reducible refine (CA.out _ (BW.out.alloc BW.out.size _)).mono ?_
      rintro e w' ⟨rfl, b'⟩
      have BN := Lib.hid ((BW.out.alloc BW.out.size (.cells #[.int .i64 k0, .slice ai0 n0 ci0, .slice ap0 np0 cp0, .slice an0 nn0 cn0, .slice ac0 nc0 cc0, .slice al0 nl0 cl0, .int .i64 code0, .int .i64 env0] 31)).trans (b'.mono (by have := BW.out.size; simp; omega)))
      clear b'
      by_cases q : ValidV a
      · rw [bB_yes q]
        have Q := Lib.hid q
        clear q
        go_wp2
        go_roundw
        case rel => exact ⟨1, by omega, by go_num, fun _ => Q.out, fun h => absurd h (by omega), BN.out⟩
        case measure => simp [intOf]
      · rw [bB_no q]
        have X := Lib.hid (fun h : ValidV a ∧ ValidV b => q h.1)
        clear q
        go_wp2
        go_ret
        exact ⟨ret_no X.out, BN.out⟩
    · have g0 : wr.cell? ⟨g, 8, none⟩ = some (.int .i64 k1) := cellOf KGW.out rfl
      have g1 : wr.cell? ⟨g, 9, none⟩ = some (.slice ai1 n1 ci1) := cellOf KGW.out rfl
      have g2 : wr.cell? ⟨g, 10, none⟩ = some (.slice ap1 np1 cp1) := cellOf KGW.out rfl
      have g3 : wr.cell? ⟨g, 11, none⟩ = some (.slice an1 nn1 cn1) := cellOf KGW.out rfl
      have g4 : wr.cell? ⟨g, 12, none⟩ = some (.slice ac1 nc1 cc1) := cellOf KGW.out rfl
      have g5 : wr.cell? ⟨g, 13, none⟩ = some (.slice al1 nl1 cl1) := cellOf KGW.out rfl
      have g6 : wr.cell? ⟨g, 14, none⟩ = some (.int .i64 code1) := cellOf KGW.out rfl
      have g7 : wr.cell? ⟨g, 15, none⟩ = some (.int .i64 env1) := cellOf KGW.out rfl
      go_wp2_with fail
      with_reducible refine (CB.out _ (BW.out.alloc BW.out.size _)).mono ?_
      rintro e w' ⟨rfl, b'⟩
      have BN := Lib.hid ((BW.out.alloc BW.out.size (.cells #[.int .i64 k1, .slice ai1 n1 ci1, .slice ap1 np1 cp1, .slice an1 nn1 cn1, .slice ac1 nc1 cc1, .slice al1 nl1 cl1, .int .i64 code1, .int .i64 env1] 31)).trans (b'.mono (by have := BW.out.size; simp; omega)))
      clear b'
      have QA := Lib.hid (PA.out (by omega))
      by_cases q : ValidV b
      · rw [bB_yes q]
        have Q := Lib.hid q
        clear q
        go_wp2
        go_roundw
        case rel => exact ⟨2, by omega, by go_num, fun _ => QA.out, fun _ => Q.out, BN.out⟩
        case measure => simp [intOf]
      · rw [bB_no q]
        have X := Lib.hid (fun h : ValidV a ∧ ValidV b => q h.2)
        clear q
        go_wp2
        go_ret
        exact ⟨ret_no X.out, BN.out⟩
    · have X := Lib.hid (show ValidV a ∧ ValidV b from ⟨PA.out (by omega), PB.out (by omega)⟩)
      go_wp2
      go_ret
      exact ⟨ret_yes X.out, BW.out⟩
/-- What problemOfOperands finds where the operands must count as numbers. -/
noncomputable def prbB (known : Bool) (a b : Vec) (uns : ByteArray) : ByteArray := match bB (ValidV a ∧ ValidV b) with
  | false => badB
  | true => match known with
    | false => unkB
    | true => match bB (Counts a ∧ Counts b) with
      | false => uns
      | true => match bB (matchL (itL a) (itL b)) with | false => lenB | true => ⟨#[]⟩
set_option maxHeartbeats 2000000 in
theorem implPrb (d0 d1 : Nat) (a b : Vec) (va vb : Value) (known : Bool) (uns : ByteArray) (lo hi : Nat) (w : World) (h0 : VecAt lo hi w d0 a va) (h1 : VecAt lo hi w d1 b vb) (hhi : hi ≤ w.heap.size) (hsm0 : Small d0 a) (hsm1 : Small d1 b) :
    Calls Try.prog 56 #[.bool known, va, vb, .func (.func 57) #[] #[], .string uns] w fun e w' => e = .returned (.string (prbB known a b uns)) ∧ Below w.heap.size w w' := by
  have K0 := Lib.hid (fun (w1 : World) (hb : Below w.heap.size w w1) => h0.below hb hhi)
  have K1 := Lib.hid (fun (w1 : World) (hb : Below w.heap.size w w1) => h1.below hb hhi)
  have HS0 := Lib.hid hsm0
  have HS1 := Lib.hid hsm1
  obtain ⟨VA, hVA⟩ : ∃ V, a = V := ⟨_, rfl⟩
  obtain ⟨VB, hVB⟩ : ∃ V, b = V := ⟨_, rfl⟩
  obtain ⟨k0, items0, parts0, names0, cls0, lev0, code0, env0⟩ := a
  obtain ⟨d0', ai0, ci0, ap0, cp0, an0, cn0, ac0, cc0, al0, cl0, ed0, rfl, hI0, hN0, hC0, hL0, hP0⟩ := vecAt_open h0
  have li0 : items0.length ≤ 1048576 := by subst ed0; exact hsm0.1
  have CX0 := Lib.hid (fun (W : World) => (by
    by_cases hc : Counts (.mk k0 items0 parts0 names0 cls0 lev0 code0 env0)
    · rw [bB_yes hc]; exact implCountsY k0 ai0 ap0 an0 ac0 al0 items0.length ci0 parts0.length cp0 names0.length cn0 cls0.length cc0 lev0.length cl0 code0 env0 W hc.1 hc.2
    · rw [bB_no hc]; exact implCountsN k0 ai0 ap0 an0 ac0 al0 items0.length ci0 parts0.length cp0 names0.length cn0 cls0.length cc0 lev0.length cl0 code0 env0 W hc : Calls Try.prog 57 #[.agg #[.int .i64 k0, .slice ai0 items0.length ci0, .slice ap0 parts0.length cp0, .slice an0 names0.length cn0, .slice ac0 cls0.length cc0, .slice al0 lev0.length cl0, .int .i64 code0, .int .i64 env0]] W (fun e w' => e = .returned (.bool (bB (Counts (.mk k0 items0 parts0 names0 cls0 lev0 code0 env0)))) ∧ Below W.heap.size W w')))
  have IT0 := Lib.hid (show itL (.mk k0 items0 parts0 names0 cls0 lev0 code0 env0) = items0.length from rfl)
  rw [hVA] at CX0 IT0 ⊢
  obtain ⟨n0, hn0⟩ : ∃ n, items0.length = n := ⟨_, rfl⟩
  obtain ⟨np0, hnp0⟩ : ∃ n, parts0.length = n := ⟨_, rfl⟩
  obtain ⟨nn0, hnn0⟩ : ∃ n, names0.length = n := ⟨_, rfl⟩
  obtain ⟨nc0, hnc0⟩ : ∃ n, cls0.length = n := ⟨_, rfl⟩
  obtain ⟨nl0, hnl0⟩ : ∃ n, lev0.length = n := ⟨_, rfl⟩
  rw [hn0] at CX0 IT0 li0 K0 ⊢
  rw [hnp0, hnn0, hnc0, hnl0] at CX0 K0 ⊢
  clear hn0 hnp0 hnn0 hnc0 hnl0 hI0 hN0 hC0 hL0 hP0 ed0
  obtain ⟨k1, items1, parts1, names1, cls1, lev1, code1, env1⟩ := b
  obtain ⟨d1', ai1, ci1, ap1, cp1, an1, cn1, ac1, cc1, al1, cl1, ed1, rfl, hI1, hN1, hC1, hL1, hP1⟩ := vecAt_open h1
  have li1 : items1.length ≤ 1048576 := by subst ed1; exact hsm1.1
  have CX1 := Lib.hid (fun (W : World) => (by
    by_cases hc : Counts (.mk k1 items1 parts1 names1 cls1 lev1 code1 env1)
    · rw [bB_yes hc]; exact implCountsY k1 ai1 ap1 an1 ac1 al1 items1.length ci1 parts1.length cp1 names1.length cn1 cls1.length cc1 lev1.length cl1 code1 env1 W hc.1 hc.2
    · rw [bB_no hc]; exact implCountsN k1 ai1 ap1 an1 ac1 al1 items1.length ci1 parts1.length cp1 names1.length cn1 cls1.length cc1 lev1.length cl1 code1 env1 W hc : Calls Try.prog 57 #[.agg #[.int .i64 k1, .slice ai1 items1.length ci1, .slice ap1 parts1.length cp1, .slice an1 names1.length cn1, .slice ac1 cls1.length cc1, .slice al1 lev1.length cl1, .int .i64 code1, .int .i64 env1]] W (fun e w' => e = .returned (.bool (bB (Counts (.mk k1 items1 parts1 names1 cls1 lev1 code1 env1)))) ∧ Below W.heap.size W w')))
  have IT1 := Lib.hid (show itL (.mk k1 items1 parts1 names1 cls1 lev1 code1 env1) = items1.length from rfl)
  rw [hVB] at CX1 IT1 ⊢
  obtain ⟨n1, hn1⟩ : ∃ n, items1.length = n := ⟨_, rfl⟩
  obtain ⟨np1, hnp1⟩ : ∃ n, parts1.length = n := ⟨_, rfl⟩
  obtain ⟨nn1, hnn1⟩ : ∃ n, names1.length = n := ⟨_, rfl⟩
  obtain ⟨nc1, hnc1⟩ : ∃ n, cls1.length = n := ⟨_, rfl⟩
  obtain ⟨nl1, hnl1⟩ : ∃ n, lev1.length = n := ⟨_, rfl⟩
  rw [hn1] at CX1 IT1 li1 K1 ⊢
  rw [hnp1, hnn1, hnc1, hnl1] at CX1 K1 ⊢
  clear hn1 hnp1 hnn1 hnc1 hnl1 hI1 hN1 hC1 hL1 hP1 ed1
  have CV := Lib.hid (fun (g : Nat) (w1 : World) (hb : Below w.heap.size w w1) (hg : w1.heap[g]? = some (.cells #[.int .i64 k0, .slice ai0 n0 ci0, .slice ap0 np0 cp0, .slice an0 nn0 cn0, .slice ac0 nc0 cc0, .slice al0 nl0 cl0, .int .i64 code0, .int .i64 env0, .int .i64 k1, .slice ai1 n1 ci1, .slice ap1 np1 cp1, .slice an1 nn1 cn1, .slice ac1 nc1 cc1, .slice al1 nl1 cl1, .int .i64 code1, .int .i64 env1] 31 (0, 0))) => (by
    have h := implAre d0 d1 _ _ k0 ai0 ap0 an0 ac0 al0 n0 ci0 np0 cp0 nn0 cn0 nc0 cc0 nl0 cl0 code0 env0 k1 ai1 ap1 an1 ac1 al1 n1 ci1 np1 cp1 nn1 cn1 nc1 cc1 nl1 cl1 code1 env1 g lo hi w1 (K0.out w1 hb) (K1.out w1 hb) (Nat.le_trans hhi hb.size) HS0.out HS1.out hg
    rw [hVA, hVB] at h
    exact h : Calls Try.prog 116 #[.slice (some ⟨g, 0, none⟩) 2 2] w1 (fun e w' => e = .returned (.bool (bB (ValidV VA ∧ ValidV VB))) ∧ Below w1.heap.size w1 w')))
  have CM := Lib.hid (fun W => implMatch k0 ai0 ap0 an0 ac0 al0 n0 ci0 np0 cp0 nn0 cn0 nc0 cc0 nl0 cl0 code0 env0 k1 ai1 ap1 an1 ac1 al1 n1 ci1 np1 cp1 nn1 cn1 nc1 cc1 nl1 cl1 code1 env1 W li0 li1)
  have XP := Lib.hid (show prbB known VA VB uns = match bB (ValidV VA ∧ ValidV VB) with
    | false => badB
    | true => match known with
      | false => unkB
      | true => match bB (Counts VA ∧ Counts VB) with
        | false => uns
        | true => match bB (matchL n0 n1) with | false => lenB | true => ⟨#[]⟩ by unfold prbB; rw [IT0.out, IT1.out])
  obtain ⟨R, hR⟩ : ∃ R, prbB known VA VB uns = R := ⟨_, rfl⟩
  rw [hR] at XP ⊢
  clear h0 h1 hsm0 hsm1 HS0 HS1 K0 K1 hVA hVB hR
  go_enter Try.func56, Try.ntmps56
  go_wp2_with fail
  obtain ⟨w1, hw1⟩ : ∃ W, ((w.alloc (.cells #[.int .i64 k0, .slice ai0 n0 ci0, .slice ap0 np0 cp0, .slice an0 nn0 cn0, .slice ac0 nc0 cc0, .slice al0 nl0 cl0, .int .i64 code0, .int .i64 env0] 31)).alloc (.cells #[.int .i64 k1, .slice ai1 n1 ci1, .slice ap1 np1 cp1, .slice an1 nn1 cn1, .slice ac1 nc1 cc1, .slice al1 nl1 cl1, .int .i64 code1, .int .i64 env1] 31)).alloc (.cells #[.int .i64 k0, .slice ai0 n0 ci0, .slice ap0 np0 cp0, .slice an0 nn0 cn0, .slice ac0 nc0 cc0, .slice al0 nl0 cl0, .int .i64 code0, .int .i64 env0, .int .i64 k1, .slice ai1 n1 ci1, .slice ap1 np1 cp1, .slice an1 nn1 cn1, .slice ac1 nc1 cc1, .slice al1 nl1 cl1, .int .i64 code1, .int .i64 env1] 31) = W := ⟨_, rfl⟩
  have hsz1 : (w.alloc (.cells #[.int .i64 k0, .slice ai0 n0 ci0, .slice ap0 np0 cp0, .slice an0 nn0 cn0, .slice ac0 nc0 cc0, .slice al0 nl0 cl0, .int .i64 code0, .int .i64 env0] 31)).heap.size = w.heap.size + 1 := by simp
  have hsz2 : ((w.alloc (.cells #[.int .i64 k0, .slice ai0 n0 ci0, .slice ap0 np0 cp0, .slice an0 nn0 cn0, .slice ac0 nc0 cc0, .slice al0 nl0 cl0, .int .i64 code0, .int .i64 env0] 31)).alloc (.cells #[.int .i64 k1, .slice ai1 n1 ci1, .slice ap1 np1 cp1, .slice an1 nn1 cn1, .slice ac1 nc1 cc1, .slice al1 nl1 cl1, .int .i64 code1, .int .i64 env1] 31)).heap.size = w.heap.size + 1 + 1 := by simp
  have B1 := Lib.hid (show Below w.heap.size w w1 from hw1 ▸ (below2 w _ _).alloc (by simp; omega) _)
  have KA := Lib.hid (show w1.heap[w.heap.size]? = some (.cells #[.int .i64 k0, .slice ai0 n0 ci0, .slice ap0 np0 cp0, .slice an0 nn0 cn0, .slice ac0 nc0 cc0, .slice al0 nl0 cl0, .int .i64 code0, .int .i64 env0] 31 (0, 0)) from hw1 ▸ blk_old (blk_old (blk_new w _ rfl)))
  have KB := Lib.hid (show w1.heap[w.heap.size + 1]? = some (.cells #[.int .i64 k1, .slice ai1 n1 ci1, .slice ap1 np1 cp1, .slice an1 nn1 cn1, .slice ac1 nc1 cc1, .slice al1 nl1 cl1, .int .i64 code1, .int .i64 env1] 31 (0, 0)) from hw1 ▸ blk_old (hsz1 ▸ blk_new (w.alloc (.cells #[.int .i64 k0, .slice ai0 n0 ci0, .slice ap0 np0 cp0, .slice an0 nn0 cn0, .slice ac0 nc0 cc0, .slice al0 nl0 cl0, .int .i64 code0, .int .i64 env0] 31)) (.cells #[.int .i64 k1, .slice ai1 n1 ci1, .slice ap1 np1 cp1, .slice an1 nn1 cn1, .slice ac1 nc1 cc1, .slice al1 nl1 cl1, .int .i64 code1, .int .i64 env1] 31) rfl))
  have KG := Lib.hid (show w1.heap[w.heap.size + 1 + 1]? = some (.cells #[.int .i64 k0, .slice ai0 n0 ci0, .slice ap0 np0 cp0, .slice an0 nn0 cn0, .slice ac0 nc0 cc0, .slice al0 nl0 cl0, .int .i64 code0, .int .i64 env0, .int .i64 k1, .slice ai1 n1 ci1, .slice ap1 np1 cp1, .slice an1 nn1 cn1, .slice ac1 nc1 cc1, .slice al1 nl1 cl1, .int .i64 code1, .int .i64 env1] 31 (0, 0)) from hw1 ▸ hsz2 ▸ blk_new ((w.alloc (.cells #[.int .i64 k0, .slice ai0 n0 ci0, .slice ap0 np0 cp0, .slice an0 nn0 cn0, .slice ac0 nc0 cc0, .slice al0 nl0 cl0, .int .i64 code0, .int .i64 env0] 31)).alloc (.cells #[.int .i64 k1, .slice ai1 n1 ci1, .slice ap1 np1 cp1, .slice an1 nn1 cn1, .slice ac1 nc1 cc1, .slice al1 nl1 cl1, .int .i64 code1, .int .i64 env1] 31)) (.cells #[.int .i64 k0, .slice ai0 n0 ci0, .slice ap0 np0 cp0, .slice an0 nn0 cn0, .slice ac0 nc0 cc0, .slice al0 nl0 cl0, .int .i64 code0, .int .i64 env0, .int .i64 k1, .slice ai1 n1 ci1, .slice ap1 np1 cp1, .slice an1 nn1 cn1, .slice ac1 nc1 cc1, .slice al1 nl1 cl1, .int .i64 code1, .int .i64 env1] 31) rfl)
  rw [hw1]
  clear hw1 hsz1 hsz2
  with_reducible refine (CV.out _ _ B1.out KG.out).mono ?_
  rintro e w2 ⟨rfl, b⟩
  have B2 := Lib.hid (below_then B1.out b)
  have KA := Lib.hid (blk_below b KA.out)
  have KB := Lib.hid (blk_below b KB.out)
  clear b KG
  by_cases q : ValidV VA ∧ ValidV VB
  · have XP := Lib.hid (by have h := XP.out; rw [bB_yes q] at h; exact h)
    rw [bB_yes q]
    clear q
    cases known with
    | false =>
      go_wp2
      go_ret
      rw [XP.out]
      exact ⟨rfl, B2.out⟩
    | true =>
      obtain ⟨ka0, ka1, ka2, ka3, ka4, ka5, ka6, ka7⟩ := vec8 KA.out
      go_wp2_with fail
      with_reducible refine (CX0.out _).mono ?_
      rintro e w3 ⟨rfl, b⟩
      have B3 := Lib.hid (below_then B2.out b)
      have KA := Lib.hid (blk_below b KA.out)
      have KB := Lib.hid (blk_below b KB.out)
      clear b ka0 ka1 ka2 ka3 ka4 ka5 ka6 ka7
      by_cases ca : Counts VA
      · rw [bB_yes ca]
        obtain ⟨kb0, kb1, kb2, kb3, kb4, kb5, kb6, kb7⟩ := vec8 KB.out
        go_wp2_with fail
        with_reducible refine (CX1.out _).mono ?_
        rintro e w4 ⟨rfl, b⟩
        have B4 := Lib.hid (below_then B3.out b)
        have KA := Lib.hid (blk_below b KA.out)
        have KB := Lib.hid (blk_below b KB.out)
        clear b kb0 kb1 kb2 kb3 kb4 kb5 kb6 kb7
        by_cases cb : Counts VB
        · rw [bB_yes cb]
          have XP := Lib.hid (by have h := XP.out; rw [bB_yes (And.intro ca cb)] at h; exact h)
          clear ca cb
          obtain ⟨ka0, ka1, ka2, ka3, ka4, ka5, ka6, ka7⟩ := vec8 KA.out
          obtain ⟨kb0, kb1, kb2, kb3, kb4, kb5, kb6, kb7⟩ := vec8 KB.out
          go_wp2_with fail
          with_reducible refine (CM.out _).mono ?_
          rintro e w5 ⟨rfl, b⟩
          have B5 := Lib.hid (below_then B4.out b)
          clear b ka0 ka1 ka2 ka3 ka4 ka5 ka6 ka7 kb0 kb1 kb2 kb3 kb4 kb5 kb6 kb7
          by_cases cm : matchL n0 n1
          · rw [bB_yes cm]
            have XP := Lib.hid (by have h := XP.out; rw [bB_yes cm] at h; exact h)
            clear cm
            go_wp2
            go_ret
            rw [XP.out]
            exact ⟨rfl, B5.out⟩
          · rw [bB_no cm]
            have XP := Lib.hid (by have h := XP.out; rw [bB_no cm] at h; exact h)
            clear cm
            go_wp2
            go_ret
            rw [XP.out]
            exact ⟨rfl, B5.out⟩
        · rw [bB_no cb]
          have XP := Lib.hid (by have h := XP.out; rw [bB_no (fun h : Counts VA ∧ Counts VB => cb h.2)] at h; exact h)
          clear ca cb
          go_wp2
          go_ret
          rw [XP.out]
          exact ⟨rfl, B4.out⟩
      · rw [bB_no ca]
        have XP := Lib.hid (by have h := XP.out; rw [bB_no (fun h : Counts VA ∧ Counts VB => ca h.1)] at h; exact h)
        clear ca
        go_wp2
        go_ret
        rw [XP.out]
        exact ⟨rfl, B3.out⟩
  · have XP := Lib.hid (by have h := XP.out; rw [bB_no q] at h; exact h)
    rw [bB_no q]
    clear q
    go_wp2
    go_ret
    rw [XP.out]
    exact ⟨rfl, B2.out⟩
end Go.Proofs.Ytlnjjjoeblopeaa

/- LogicOf as data against what the program's parts answer. -/
namespace Go.Proofs.Ytlnjjjoeblopeaa
open Go.RowKit
set_option maxRecDepth 100000
set_option linter.unusedVariables false

theorem size_rec {m n : Nat} (h : 0 ≤ sizeL m n) : (sizeL m n).toNat = recN m n := by
  unfold sizeL at h ⊢
  unfold recN
  by_cases h0 : m = 0 ∨ n = 0
  · rw [if_pos h0, if_pos h0]; rfl
  · rw [if_neg h0] at h
    rw [if_neg h0, if_neg h0]
    by_cases hr : max m n % min m n ≠ 0
    · rw [if_pos hr] at h; omega
    · rw [if_neg hr]; rfl
theorem lgcS_prb (op : ByteArray) (a b : Vec) : lgcS op a b = prbB (bB (op = andB ∨ op = orB)) a b nonLogB := by
  unfold lgcS prbB matchL lgcN
  cases bB (ValidV a ∧ ValidV b) <;> cases bB (op = andB ∨ op = orB) <;> cases bB (Counts a ∧ Counts b) <;> cases bB (0 ≤ sizeL (itL a) (itL b)) <;> rfl
/-- Where a problem is told, the vector is the zero one. -/
theorem lgcV_no {op : ByteArray} {a b : Vec} (h : prbB (bB (op = andB ∨ op = orB)) a b nonLogB ≠ ⟨#[]⟩) : lgcV op a b = noV := by
  rw [← lgcS_prb] at h
  unfold lgcS at h
  unfold lgcV
  cases e1 : bB (ValidV a ∧ ValidV b) <;> cases e2 : bB (op = andB ∨ op = orB) <;> cases e3 : bB (Counts a ∧ Counts b) <;> cases e4 : bB (0 ≤ lgcN a b) <;> simp only [e1, e2, e3, e4] at h ⊢
  exact absurd rfl h
/-- Where none is told, the vector is the one that is reckoned. -/
theorem lgcV_ok {op : ByteArray} {a b : Vec} (h : prbB (bB (op = andB ∨ op = orB)) a b nonLogB = ⟨#[]⟩) : (ValidV a ∧ ValidV b) ∧ (op = andB ∨ op = orB) ∧ (Counts a ∧ Counts b) ∧ 0 ≤ lgcN a b := by
  unfold prbB matchL at h
  by_cases h1 : ValidV a ∧ ValidV b
  · rw [bB_yes h1] at h
    by_cases h2 : op = andB ∨ op = orB
    · rw [bB_yes h2] at h
      by_cases h3 : Counts a ∧ Counts b
      · rw [bB_yes h3] at h
        by_cases h4 : 0 ≤ sizeL (itL a) (itL b)
        · exact ⟨h1, h2, h3, h4⟩
        · rw [bB_no h4] at h; exact absurd (show lenB = ⟨#[]⟩ from h) (by decide)
      · rw [bB_no h3] at h; exact absurd (show nonLogB = ⟨#[]⟩ from h) (by decide)
    · rw [bB_no h2] at h; exact absurd (show unkB = ⟨#[]⟩ from h) (by decide)
  · rw [bB_no h1] at h; exact absurd (show badB = ⟨#[]⟩ from h) (by decide)
end Go.Proofs.Ytlnjjjoeblopeaa

/- A map literal of texts to functions: written and looked up. -/
namespace Go.Proofs.Ytlnjjjoeblopeaa
open Go.RowKit
set_option maxRecDepth 100000
set_option linter.unusedVariables false
theorem run_ins {P : Program} {w : World} {mty kt et : TypeId} {r clock : Nat} {es : Array MapEntry} {s : ByteArray} {val : Value} (hm : P.underlying mty = some (.map kt et)) (hk : P.underlying kt = some .string) (hb : w.heap[r]? = some (.map es clock))
    (hf : Instr.findNow .string (.string s) es.toList 0 = some none) :
    (Instr.mapUpdate mty (.map (some r)) (.string s) val).run P w = .ok () { w with heap := w.heap.setIfInBounds r (.map (es.push { key := .string s, val := val, born := clock }) (clock + 1)) } := by
  have hc : (Instr.checkKey false 10000 kt (.string s)).run P w = .ok () w := MapKept.run_checkKey (k := .string s) hk (by simp [MapKept.IsKey]) false 9999
  simp [Instr.mapUpdate, run_underlying hm, MapKept.run_getObj_map hb, hc, MapKept.run_findKey hk hf, MapKept.run_setObj_map _ hb, Result.andThen]
theorem run_look_yes {P : Program} {w : World} {mty kt et : TypeId} {r clock i : Nat} {es : Array MapEntry} {s : ByteArray} {v : Value} (hm : P.underlying mty = some (.map kt et)) (hk : P.underlying kt = some .string) (hb : w.heap[r]? = some (.map es clock))
    (hf : Instr.findNow .string (.string s) es.toList 0 = some (some (i, v))) : (Instr.lookup mty (.map (some r)) (.string s) true).run P w = .ok (.tuple #[v, .bool true]) w := by
  have hc : (Instr.checkKey es.isEmpty 10000 kt (.string s)).run P w = .ok () w := MapKept.run_checkKey (k := .string s) hk (by simp [MapKept.IsKey]) _ 9999
  simp [Instr.lookup, run_underlying hm, MapKept.run_getObj_map hb, hc, MapKept.run_findKey hk hf, Result.andThen]
theorem run_look_no {P : Program} {w : World} {mty kt et : TypeId} {r clock : Nat} {es : Array MapEntry} {s : ByteArray} {z : Value} (hm : P.underlying mty = some (.map kt et)) (hk : P.underlying kt = some .string) (hb : w.heap[r]? = some (.map es clock))
    (hf : Instr.findNow .string (.string s) es.toList 0 = some none) (hz : (zeroValue et).run P w = .ok z w) : (Instr.lookup mty (.map (some r)) (.string s) true).run P w = .ok (.tuple #[z, .bool false]) w := by
  have hc : (Instr.checkKey es.isEmpty 10000 kt (.string s)).run P w = .ok () w := MapKept.run_checkKey (k := .string s) hk (by simp [MapKept.IsKey]) _ 9999
  simp [Instr.lookup, run_underlying hm, MapKept.run_getObj_map hb, hc, MapKept.run_findKey hk hf, hz, Result.andThen]
end Go.Proofs.Ytlnjjjoeblopeaa

/- The program's table of logical operators. -/
namespace Go.Proofs.Ytlnjjjoeblopeaa
open Go.RowKit
set_option maxRecDepth 100000
set_option linter.unusedVariables false
def putObj (w : World) (r : Nat) (o : Obj) : World := { w with heap := w.heap.setIfInBounds r o }
theorem putObj_at {w : World} {r : Nat} {o : Obj} (h : r < w.heap.size) : (putObj w r o).heap[r]? = some o := by simp [putObj, h]
theorem below_putObj {B : Nat} {a w : World} (h : Below B a w) {r : Nat} (hr : B ≤ r) (o : Obj) : Below B a (putObj w r o) :=
  h.trans ⟨rfl, rfl, rfl, by simp [Proofs.Ytlnjjjoeblopeaa.putObj], fun k hk => by simp only [Proofs.Ytlnjjjoeblopeaa.putObj]; rw [Array.getElem?_setIfInBounds_ne (by omega)]⟩
def opTab : Array MapEntry := #[{ key := .string ⟨#[38]⟩, val := .func (.func 97) #[] #[], born := 0 }, { key := .string ⟨#[124]⟩, val := .func (.func 98) #[] #[], born := 1 }]
theorem implOps (w : World) : Calls Try.prog 55 #[] w fun e w' => e = .returned (.map (some w.heap.size)) ∧ w'.heap[w.heap.size]? = some (.map opTab 2) ∧ Below w.heap.size w w' := by
  have hmm := @run_makeMap Try.prog
  have hb0 : (w.alloc (.map #[] 0)).heap[w.heap.size]? = some (.map #[] 0) := blk_new w _ rfl
  have hs : (w.alloc (.map #[] 0)).heap.size = w.heap.size + 1 := by simp
  have j1 := run_ins (P := Try.prog) (w := w.alloc (.map #[] 0)) (val := .func (.func 97) #[] #[]) (s := ⟨#[38]⟩) Try.underlying62 Try.underlying9 hb0 rfl
  obtain ⟨W1, hW1⟩ : ∃ W, putObj (w.alloc (.map #[] 0)) w.heap.size (.map ((#[] : Array MapEntry).push { key := .string ⟨#[38]⟩, val := .func (.func 97) #[] #[], born := 0 }) (0 + 1)) = W := ⟨_, rfl⟩
  have i1 : (Instr.mapUpdate 62 (.map (some w.heap.size)) (.string ⟨#[38]⟩) (.func (.func 97) #[] #[])).run Try.prog (w.alloc (.map #[] 0)) = .ok () W1 := hW1 ▸ j1
  have hb1 : W1.heap[w.heap.size]? = some (.map #[{ key := .string ⟨#[38]⟩, val := .func (.func 97) #[] #[], born := 0 }] 1) := hW1 ▸ putObj_at (by rw [hs]; omega)
  have B1 : Below w.heap.size w W1 := hW1 ▸ below_putObj (below1 w _) (Nat.le_refl _) _
  have j2 := run_ins (P := Try.prog) (w := W1) (val := .func (.func 98) #[] #[]) (s := ⟨#[124]⟩) Try.underlying62 Try.underlying9 hb1 (by rfl)
  obtain ⟨W2, hW2⟩ : ∃ W, putObj W1 w.heap.size (.map ((#[{ key := .string ⟨#[38]⟩, val := .func (.func 97) #[] #[], born := 0 }] : Array MapEntry).push { key := .string ⟨#[124]⟩, val := .func (.func 98) #[] #[], born := 1 }) (1 + 1)) = W := ⟨_, rfl⟩
  have i2 : (Instr.mapUpdate 62 (.map (some w.heap.size)) (.string ⟨#[124]⟩) (.func (.func 98) #[] #[])).run Try.prog W1 = .ok () W2 := hW2 ▸ j2
  have K2 := Lib.hid (show W2.heap[w.heap.size]? = some (.map opTab 2) from hW2 ▸ putObj_at (Array.getElem?_eq_some_iff.1 hb1).1)
  have B2 := Lib.hid (show Below w.heap.size w W2 from hW2 ▸ below_putObj B1 (Nat.le_refl _) _)
  clear hW1 hW2 hb0 hb1 B1 hs j1 j2
  go_enter Try.func55, Try.ntmps55
  go_wp2
  go_ret
  exact ⟨rfl, K2.out, B2.out⟩
theorem look_and {w : World} {g : Nat} (h : w.heap[g]? = some (.map opTab 2)) : (Instr.lookup 62 (.map (some g)) (.string ⟨#[38]⟩) true).run Try.prog w = .ok (.tuple #[.func (.func 97) #[] #[], .bool true]) w :=
  run_look_yes (i := 0) Try.underlying62 Try.underlying9 h (by rfl)
theorem look_or {w : World} {g : Nat} (h : w.heap[g]? = some (.map opTab 2)) : (Instr.lookup 62 (.map (some g)) (.string ⟨#[124]⟩) true).run Try.prog w = .ok (.tuple #[.func (.func 98) #[] #[], .bool true]) w :=
  run_look_yes (i := 1) Try.underlying62 Try.underlying9 h (by rfl)
end Go.Proofs.Ytlnjjjoeblopeaa

/- A struct literal of a vector with items and names. -/
namespace Go.Proofs.Ytlnjjjoeblopeaa
open Go.RowKit
set_option maxRecDepth 100000
theorem build_v3 {w : World} {k : Int} {a c : Option Addr} {n m n' m' : Nat} : (Instr.build 31 #[(0, .int .i64 k), (1, .slice a n m), (3, .slice c n' m')]).run Try.prog w = .ok (.agg #[.int .i64 k, .slice a n m, .slice none 0 0, .slice c n' m', .slice none 0 0, .slice none 0 0, .int .i64 0, .int .i64 0]) w := by
  kernel_rfl
end Go.Proofs.Ytlnjjjoeblopeaa

/- LogicOf of the program. -/
namespace Go.Proofs.Ytlnjjjoeblopeaa
open Go.RowKit
set_option maxRecDepth 100000
set_option linter.unusedVariables false

theorem own_pair {w : World} {k : Int} {l : List It} {names : List ByteArray} {a : Option Addr} {c : Nat} {na : Option Addr} {nc : Nat} {Fi Fn : List Nat} {lo mid hi : Nat} (hi1 : OwnIts w a l Fi) (n1 : Fi.Nodup) (r1 : ∀ b ∈ Fi, lo ≤ b ∧ b < mid) (c1 : l.length ≤ c)
    (hT : OwnTxs w na names Fn) (n2 : Fn.Nodup) (r2 : ∀ b ∈ Fn, mid ≤ b ∧ b < hi) (c2 : names.length ≤ nc) (h1 : lo ≤ mid) (h2 : mid ≤ hi) : Own 1 (mkN k l names) (.agg #[.int .i64 k, .slice a l.length c, .slice none 0 0, .slice na names.length nc, .slice none 0 0, .slice none 0 0, .int .i64 0, .int .i64 0]) lo hi w := by
  refine ⟨Fi ++ Fn, ?_, ?_, ?_⟩
  · show OwnVec w 1 (.mk k l [] names [] [] 0 0) _ _
    unfold OwnVec
    exact ⟨a, c, none, 0, na, nc, none, 0, none, 0, Fi, [], Fn, [], [], rfl, by simp, ⟨c1, Nat.le_refl _, c2, Nat.le_refl _, Nat.le_refl _⟩, hi1, hT, .inl ⟨rfl, rfl⟩, .inl ⟨rfl, rfl⟩, .inl ⟨rfl, rfl⟩⟩
  · rw [List.nodup_append]
    exact ⟨n1, n2, fun x hx y hy e => by have := r1 x hx; have := r2 y hy; omega⟩
  · intro b hb
    rcases List.mem_append.1 hb with h | h
    · have := r1 b h; omega
    · have := r2 b h; omega
section
variable {ops : Array Oper} {Q : Exit → Act → World → Prop} {S : World → Prop}
variable {r : List (Nat × Bool)} {a : Act} {e : List (Nat × Value)} {w : World} {i d : Nat} {g : Option (Nat × Bool)}
theorem run_bld {x y : Operand} {sa sb : Option Addr} {n m n' m' : Nat} (ho : opAt ops i = some (some d, .build 31 #[(0, .const (.int .i64 1)), (1, x), (3, y)], g)) (hd : Nat.blt d a.tmps.size = true) (hw : wantE ops a e g = some true)
    (hx : lookO a e x = .slice sa n m) (hy : lookO a e y = .slice sb n' m') (hS : S w)
    (h : RunE Try.prog ops Q S r a ((d, .agg #[.int .i64 1, .slice sa n m, .slice none 0 0, .slice sb n' m', .slice none 0 0, .slice none 0 0, .int .i64 0, .int .i64 0]) :: e) w) : RunE Try.prog ops Q S ((i, false) :: r) a e w := by
  have hc : lookO a e (.const (.int .i64 1)) = .int .i64 1 := rfl
  refine run_eff ho hd hw (fun o h1 => ?_) hS h
  unfold execOp
  simp only [h1, List.map_toArray, List.map_cons, List.map_nil, hx, hy, hc]
  exact run_v build_v3
end
theorem store_vecN {w : World} {b : Nat} {z0 z1 z2 z3 z4 z5 z6 z7 c0 c1 c2 c3 c4 c5 c6 c7 : Value} (h : w.heap[b]? = some (.cells #[z0, z1, z2, z3, z4, z5, z6, z7] 31 (0, 0))) (h1 : (#[c0, c1, c2, c3, c4, c5, c6, c7] : Array Value).all (·.oneCell') = true) :
    (Instr.storeAt 31 (.pointer (some ⟨b, 0, none⟩)) (.agg #[c0, c1, c2, c3, c4, c5, c6, c7])).run Try.prog w = .ok () (w.setRow b #[c0, c1, c2, c3, c4, c5, c6, c7]) := by
  have e := run_storeVar_row (P := Try.prog) w b _ 31 #[z0, z1, z2, z3, z4, z5, z6, z7] #[c0, c1, c2, c3, c4, c5, c6, c7] h infoVec rfl h1
  simp only [Instr.storeAt, Instr.sureAddr, Sem.run_bind, Sem.run_pure, Result.andThen_ok, e]
theorem bytes_ne {x y : ByteArray} (h : ¬ x = y) : (x == y) = false := by
  obtain ⟨a⟩ := x
  obtain ⟨b⟩ := y
  show (a == b) = false
  rw [beq_eq_false_iff_ne]
  intro e
  exact h (by rw [e])
set_option maxHeartbeats 4000000 in
theorem implLogicOf (d0 d1 : Nat) (a b : Vec) (op : ByteArray) (va vb : Value) (lo hi : Nat) (w : World) (h0 : VecAt lo hi w d0 a va) (h1 : VecAt lo hi w d1 b vb) (hhi : hi ≤ w.heap.size) (hsm0 : Small d0 a) (hsm1 : Small d1 b) :
    Calls Try.prog 17 #[.string op, va, vb] w (ResVS 1 (lgcV op a b) (lgcS op a b) w) := by
  have PB := Lib.hid (fun (w1 : World) (hb : Below w.heap.size w w1) (known : Bool) => implPrb d0 d1 a b va vb known nonLogB lo hi w1 (h0.below hb hhi) (h1.below hb hhi) (Nat.le_trans hhi hb.size) hsm0 hsm1)
  obtain ⟨VA, hVA⟩ : ∃ V, a = V := ⟨_, rfl⟩
  obtain ⟨VB, hVB⟩ : ∃ V, b = V := ⟨_, rfl⟩
  rw [hVA, hVB] at PB
  rw [hVA, hVB]
  obtain ⟨k0, items0, parts0, names0, cls0, lev0, code0, env0⟩ := a
  obtain ⟨d0', ai0, ci0, ap0, cp0, an0, cn0, ac0, cc0, al0, cl0, ed0, rfl, hI0, hN0, hC0, hL0, hP0⟩ := vecAt_open h0
  have ln0 : names0.length ≤ 1048576 := by subst ed0; exact hsm0.2.2.1
  have li0 : items0.length ≤ 1048576 := by subst ed0; exact hsm0.1
  have lp0 : parts0.length ≤ 1048576 := by subst ed0; exact hsm0.2.1
  obtain ⟨k1, items1, parts1, names1, cls1, lev1, code1, env1⟩ := b
  obtain ⟨d1', ai1, ci1, ap1, cp1, an1, cn1, ac1, cc1, al1, cl1, ed1, rfl, hI1, hN1, hC1, hL1, hP1⟩ := vecAt_open h1
  have ln1 : names1.length ≤ 1048576 := by subst ed1; exact hsm1.2.2.1
  have li1 : items1.length ≤ 1048576 := by subst ed1; exact hsm1.1
  have lp1 : parts1.length ≤ 1048576 := by subst ed1; exact hsm1.2.1
  go_enter Try.func17, Try.ntmps17
  go_wp2_with fail
  obtain ⟨w1, hw1⟩ : ∃ W, ((w.alloc (.cells #[.int .i64 k0, .slice ai0 items0.length ci0, .slice ap0 parts0.length cp0, .slice an0 names0.length cn0, .slice ac0 cls0.length cc0, .slice al0 lev0.length cl0, .int .i64 code0, .int .i64 env0] 31)).alloc (.cells #[.int .i64 k1, .slice ai1 items1.length ci1, .slice ap1 parts1.length cp1, .slice an1 names1.length cn1, .slice ac1 cls1.length cc1, .slice al1 lev1.length cl1, .int .i64 code1, .int .i64 env1] 31)).alloc (.cells #[.int .i64 0, .slice none 0 0, .slice none 0 0, .slice none 0 0, .slice none 0 0, .slice none 0 0, .int .i64 0, .int .i64 0] 31) = W := ⟨_, rfl⟩
  have hsz1 : (w.alloc (.cells #[.int .i64 k0, .slice ai0 items0.length ci0, .slice ap0 parts0.length cp0, .slice an0 names0.length cn0, .slice ac0 cls0.length cc0, .slice al0 lev0.length cl0, .int .i64 code0, .int .i64 env0] 31)).heap.size = w.heap.size + 1 := by simp
  have hsz2 : ((w.alloc (.cells #[.int .i64 k0, .slice ai0 items0.length ci0, .slice ap0 parts0.length cp0, .slice an0 names0.length cn0, .slice ac0 cls0.length cc0, .slice al0 lev0.length cl0, .int .i64 code0, .int .i64 env0] 31)).alloc (.cells #[.int .i64 k1, .slice ai1 items1.length ci1, .slice ap1 parts1.length cp1, .slice an1 names1.length cn1, .slice ac1 cls1.length cc1, .slice al1 lev1.length cl1, .int .i64 code1, .int .i64 env1] 31)).heap.size = w.heap.size + 1 + 1 := by simp
  have B1 := Lib.hid (show Below w.heap.size w w1 from hw1 ▸ (below2 w _ _).alloc (by simp; omega) _)
  have KA := Lib.hid (show w1.heap[w.heap.size]? = some (.cells #[.int .i64 k0, .slice ai0 items0.length ci0, .slice ap0 parts0.length cp0, .slice an0 names0.length cn0, .slice ac0 cls0.length cc0, .slice al0 lev0.length cl0, .int .i64 code0, .int .i64 env0] 31 (0, 0)) from hw1 ▸ blk_old (blk_old (blk_new w _ rfl)))
  have KB := Lib.hid (show w1.heap[w.heap.size + 1]? = some (.cells #[.int .i64 k1, .slice ai1 items1.length ci1, .slice ap1 parts1.length cp1, .slice an1 names1.length cn1, .slice ac1 cls1.length cc1, .slice al1 lev1.length cl1, .int .i64 code1, .int .i64 env1] 31 (0, 0)) from hw1 ▸ blk_old (hsz1 ▸ blk_new (w.alloc (.cells #[.int .i64 k0, .slice ai0 items0.length ci0, .slice ap0 parts0.length cp0, .slice an0 names0.length cn0, .slice ac0 cls0.length cc0, .slice al0 lev0.length cl0, .int .i64 code0, .int .i64 env0] 31)) (.cells #[.int .i64 k1, .slice ai1 items1.length ci1, .slice ap1 parts1.length cp1, .slice an1 names1.length cn1, .slice ac1 cls1.length cc1, .slice al1 lev1.length cl1, .int .i64 code1, .int .i64 env1] 31) rfl))
  have KR := Lib.hid (show w1.heap[w.heap.size + 1 + 1]? = some (.cells #[.int .i64 0, .slice none 0 0, .slice none 0 0, .slice none 0 0, .slice none 0 0, .slice none 0 0, .int .i64 0, .int .i64 0] 31 (0, 0)) from hw1 ▸ hsz2 ▸ blk_new ((w.alloc (.cells #[.int .i64 k0, .slice ai0 items0.length ci0, .slice ap0 parts0.length cp0, .slice an0 names0.length cn0, .slice ac0 cls0.length cc0, .slice al0 lev0.length cl0, .int .i64 code0, .int .i64 env0] 31)).alloc (.cells #[.int .i64 k1, .slice ai1 items1.length ci1, .slice ap1 parts1.length cp1, .slice an1 names1.length cn1, .slice ac1 cls1.length cc1, .slice al1 lev1.length cl1, .int .i64 code1, .int .i64 env1] 31)) (.cells #[.int .i64 0, .slice none 0 0, .slice none 0 0, .slice none 0 0, .slice none 0 0, .slice none 0 0, .int .i64 0, .int .i64 0] 31) rfl)
  rw [hw1]
  clear hw1 hsz1 hsz2
  with_reducible refine (implOps w1).mono ?_
  rintro e w2 ⟨rfl, hm, b'⟩
  have B2 := Lib.hid (below_then B1.out b')
  have KA := Lib.hid (blk_below b' KA.out)
  have KB := Lib.hid (blk_below b' KB.out)
  have KR := Lib.hid (blk_below b' KR.out)
  obtain ⟨gm, hgm⟩ : ∃ g, w1.heap.size = g := ⟨_, rfl⟩
  rw [hgm] at hm ⊢
  have MP := Lib.hid hm
  have hgw2 := (Array.getElem?_eq_some_iff.1 KR.out).1
  have hgw3 : w.heap.size < w2.heap.size := by omega
  have hgw4 : w.heap.size + 1 < w2.heap.size := by omega
  clear b' hgm hm
  obtain ⟨ka0, ka1, ka2, ka3, ka4, ka5, ka6, ka7⟩ := vec8 KA.out
  obtain ⟨kb0, kb1, kb2, kb3, kb4, kb5, kb6, kb7⟩ := vec8 KB.out
  by_cases hand : op = ⟨#[38]⟩
  · subst hand
    have hop : (⟨#[38]⟩ : ByteArray) = andB ∨ (⟨#[38]⟩ : ByteArray) = orB := .inl rfl
    have lk := look_and MP.out
    go_wp2_with fail
    obtain ⟨w3, hw3⟩ : ∃ W, w2.alloc (.cells #[.func (.func 97) #[] #[]] 60) = W := ⟨_, rfl⟩
    have B3 := Lib.hid (show Below w.heap.size w w3 from hw3 ▸ B2.out.alloc B2.out.size _)
    have KF := Lib.hid (show w3.heap[w2.heap.size]? = some (.cells #[.func (.func 97) #[] #[]] 60 (0, 0)) from hw3 ▸ blk_new w2 _ rfl)
    have KA := Lib.hid (show w3.heap[w.heap.size]? = some (.cells #[.int .i64 k0, .slice ai0 items0.length ci0, .slice ap0 parts0.length cp0, .slice an0 names0.length cn0, .slice ac0 cls0.length cc0, .slice al0 lev0.length cl0, .int .i64 code0, .int .i64 env0] 31 (0, 0)) from hw3 ▸ blk_old KA.out)
    have KB := Lib.hid (show w3.heap[w.heap.size + 1]? = some (.cells #[.int .i64 k1, .slice ai1 items1.length ci1, .slice ap1 parts1.length cp1, .slice an1 names1.length cn1, .slice ac1 cls1.length cc1, .slice al1 lev1.length cl1, .int .i64 code1, .int .i64 env1] 31 (0, 0)) from hw3 ▸ blk_old KB.out)
    have KR := Lib.hid (show w3.heap[w.heap.size + 1 + 1]? = some (.cells #[.int .i64 0, .slice none 0 0, .slice none 0 0, .slice none 0 0, .slice none 0 0, .slice none 0 0, .int .i64 0, .int .i64 0] 31 (0, 0)) from hw3 ▸ blk_old KR.out)
    have GW := Lib.hid (show w.heap.size + 1 + 1 < w2.heap.size from hgw2)
    rw [hw3]
    clear hw3 lk
    obtain ⟨gc, hgc⟩ : ∃ g, w2.heap.size = g := ⟨_, rfl⟩
    rw [hgc] at KF GW ⊢
    clear hgc ka0 ka1 ka2 ka3 ka4 ka5 ka6 ka7 kb0 kb1 kb2 kb3 kb4 kb5 kb6 kb7
    obtain ⟨ka0, ka1, ka2, ka3, ka4, ka5, ka6, ka7⟩ := vec8 KA.out
    obtain ⟨kb0, kb1, kb2, kb3, kb4, kb5, kb6, kb7⟩ := vec8 KB.out
    go_wp2_with fail
    refine (PB.out w3 B3.out true).mono ?_
    rintro e w4 ⟨rfl, b⟩
    have B4 := Lib.hid (below_then B3.out b)
    have KA := Lib.hid (blk_below b KA.out)
    have KB := Lib.hid (blk_below b KB.out)
    have KR := Lib.hid (blk_below b KR.out)
    have KF := Lib.hid (blk_below b KF.out)
    clear b ka0 ka1 ka2 ka3 ka4 ka5 ka6 ka7 kb0 kb1 kb2 kb3 kb4 kb5 kb6 kb7
    have XS := Lib.hid (show lgcS ⟨#[38]⟩ VA VB = prbB true VA VB nonLogB by rw [lgcS_prb, bB_yes hop])
    by_cases hp : prbB true VA VB nonLogB = ⟨#[]⟩
    · have OK := Lib.hid (lgcV_ok (op := ⟨#[38]⟩) (a := VA) (b := VB) (by rw [bB_yes hop]; exact hp))
      rw [hp]
      rw [hp] at XS
      obtain ⟨hv, _, hcc, hnn⟩ := OK.out
      have XV := Lib.hid (lgc_yes hv hop hcc hnn)
      have EA := Lib.hid (show itL VA = items0.length by rw [← hVA]; rfl)
      have EB := Lib.hid (show itL VB = items1.length by rw [← hVB]; rfl)
      have ma : items0.length ≤ 40 := by rw [← EA.out]; exact itL_le hv.1 hcc.1
      have mb : items1.length ≤ 40 := by rw [← EB.out]; exact itL_le hv.2 hcc.2
      have XA : ∀ i, i < items0.length → NumIt (items0.getD i noI) := fun i hi => num_at (by rw [hVA]; exact hv.1) (by rw [hVA]; exact hcc.1) hi
      have XB : ∀ i, i < items1.length → NumIt (items1.getD i noI) := fun i hi => num_at (by rw [hVB]; exact hv.2) (by rw [hVB]; exact hcc.2) hi
      have FA : FlatOk k0 items0 parts0.length names0 cls0 lev0 code0 env0 := by have h := hv.1; rw [← hVA] at h; exact h.1.flat
      have FB : FlatOk k1 items1 parts1.length names1 cls1 lev1 code1 env1 := by have h := hv.2; rw [← hVB] at h; exact h.1.flat
      have CRI := Lib.hid (fun (W : World) (hH : HeldC w W ([(w.heap.size, 31, #[.int .i64 k0, .slice ai0 items0.length ci0, .slice ap0 parts0.length cp0, .slice an0 names0.length cn0, .slice ac0 cls0.length cc0, .slice al0 lev0.length cl0, .int .i64 code0, .int .i64 env0]), ((w.heap.size + 1), 31, #[.int .i64 k1, .slice ai1 items1.length ci1, .slice ap1 parts1.length cp1, .slice an1 names1.length cn1, .slice ac1 cls1.length cc1, .slice al1 lev1.length cl1, .int .i64 code1, .int .i64 env1]), (gc, 60, #[.func (.func 97) #[] #[]])])) => implRecIts 58 #[.pointer (some ⟨gc, 0, none⟩)] (fun x y => logI (aL (truthI x) (truthI y))) items0 items1 ai0 ai1 ci0 ci1 lo hi items0.length items1.length W (hI0.below hH.1 hhi) (hI1.below hH.1 hhi) (Nat.le_trans hhi hH.1.size) rfl rfl ma mb (by kernel_rfl)
        (fun i j W' hi' hj' hb' => implClo 97 aL (items0.getD i noI) (items1.getD j noI) gc W' (by kernel_rfl) (fun W => (implAnd3 _ _ W (truth_three _) (truth_three _)).mono (by rintro e w' ⟨rfl, rfl⟩; exact ⟨rfl, Below.refl _ _⟩)) (aL_three _ _) (XA i hi') (XB j hj') (blk_below hb' (heldC_at hH (List.Mem.tail _ (List.Mem.tail _ (List.Mem.head _)))))))
      have CRN := Lib.hid (fun (W : World) (hH : HeldC w W ([(w.heap.size, 31, #[.int .i64 k0, .slice ai0 items0.length ci0, .slice ap0 parts0.length cp0, .slice an0 names0.length cn0, .slice ac0 cls0.length cc0, .slice al0 lev0.length cl0, .int .i64 code0, .int .i64 env0]), ((w.heap.size + 1), 31, #[.int .i64 k1, .slice ai1 items1.length ci1, .slice ap1 parts1.length cp1, .slice an1 names1.length cn1, .slice ac1 cls1.length cc1, .slice al1 lev1.length cl1, .int .i64 code1, .int .i64 env1]), (gc, 60, #[.func (.func 97) #[] #[]])])) => implRecNames k0 names0 ai0 ap0 an0 ac0 al0 items0.length ci0 parts0.length cp0 cn0 cls0.length cc0 lev0.length cl0 code0 env0 k1 names1 ai1 ap1 an1 ac1 al1 items1.length ci1 parts1.length cp1 cn1 cls1.length cc1 lev1.length cl1 code1 env1 lo hi W (hN0.below hH.1 hhi) (hN1.below hH.1 hhi) (Nat.le_trans hhi hH.1.size) ln0 ln1 li0 li1)
      go_upto_region 6 with (fail)
      have KR4 := KR
      have H := Lib.hid (show HeldC w w4 ([(w.heap.size, 31, #[.int .i64 k0, .slice ai0 items0.length ci0, .slice ap0 parts0.length cp0, .slice an0 names0.length cn0, .slice ac0 cls0.length cc0, .slice al0 lev0.length cl0, .int .i64 code0, .int .i64 env0]), ((w.heap.size + 1), 31, #[.int .i64 k1, .slice ai1 items1.length ci1, .slice ap1 parts1.length cp1, .slice an1 names1.length cn1, .slice ac1 cls1.length cc1, .slice al1 lev1.length cl1, .int .i64 code1, .int .i64 env1]), (gc, 60, #[.func (.func 97) #[] #[]])]) from heldC_cons (heldC_cons (heldC_cons ⟨B4.out, (fun _ h => by cases h)⟩ KF.out) KB.out) KA.out)
      refine run_region (ops := (opsOf Try.f17 6)) (S := fun w' => HeldC w w' ([(w.heap.size, 31, #[.int .i64 k0, .slice ai0 items0.length ci0, .slice ap0 parts0.length cp0, .slice an0 names0.length cn0, .slice ac0 cls0.length cc0, .slice al0 lev0.length cl0, .int .i64 code0, .int .i64 env0]), ((w.heap.size + 1), 31, #[.int .i64 k1, .slice ai1 items1.length ci1, .slice ap1 parts1.length cp1, .slice an1 names1.length cn1, .slice ac1 cls1.length cc1, .slice al1 lev1.length cl1, .int .i64 code1, .int .i64 env1]), (gc, 60, #[.func (.func 97) #[] #[]])])) [(0, true), (1, true), (2, true), (3, true), (4, true), (6, true), (7, true), (5, false), (8, false), (9, false), (10, false), (11, true)] (by kernel_rfl) (by kernel_rfl) (by kernel_rfl) (by kernel_rfl) (by kernel_rfl) (fun _ _ _ _ _ h => h) (heldC_drew H.out) ?_
      have H := Lib.hid (heldC_drew H.out)
      have KR := Lib.hid (blk_below (below_drew' (Below.refl _ _)) KR.out)
      refine runC_partV (b := w.heap.size) (by kernel_rfl) (show opAt (opsOf Try.f17 6) 0 = some (some 27, .fieldAddr 31 (.tmp 4) 1, none) from by kernel_rfl) (by kernel_rfl) (by kernel_rfl) (by kernel_rfl) ?_
      refine runC_cell (b := w.heap.size) (j := 1) (v := .slice ai0 items0.length ci0) load_its (show opAt (opsOf Try.f17 6) 1 = some (some 28, .load 28 (.tmp 27), none) from by kernel_rfl) (by kernel_rfl) (by kernel_rfl) (by kernel_rfl) (List.Mem.head _) rfl ?_
      refine runC_partV (b := (w.heap.size + 1)) (by kernel_rfl) (show opAt (opsOf Try.f17 6) 2 = some (some 29, .fieldAddr 31 (.tmp 5) 1, none) from by kernel_rfl) (by kernel_rfl) (by kernel_rfl) (by kernel_rfl) ?_
      refine runC_cell (b := (w.heap.size + 1)) (j := 1) (v := .slice ai1 items1.length ci1) load_its (show opAt (opsOf Try.f17 6) 3 = some (some 30, .load 28 (.tmp 29), none) from by kernel_rfl) (by kernel_rfl) (by kernel_rfl) (by kernel_rfl) (List.Mem.tail _ (List.Mem.head _)) rfl ?_
      refine run_mov (v := .func (.func 58) #[] #[.pointer (some ⟨gc, 0, none⟩)]) (show opAt (opsOf Try.f17 6) 4 = some (some 31, .move (.tmp 11), none) from by kernel_rfl) (by kernel_rfl) (by kernel_rfl) (by kernel_rfl) ?_
      refine runC_vec (b := w.heap.size) (show opAt (opsOf Try.f17 6) 6 = some (some 33, .load 31 (.tmp 4), none) from by kernel_rfl) (by kernel_rfl) (by kernel_rfl) (by kernel_rfl) (List.Mem.head _) ?_
      refine runC_vec (b := (w.heap.size + 1)) (show opAt (opsOf Try.f17 6) 7 = some (some 34, .load 31 (.tmp 5), none) from by kernel_rfl) (by kernel_rfl) (by kernel_rfl) (by kernel_rfl) (List.Mem.tail _ (List.Mem.head _)) ?_
      refine run_call (args := [.slice ai0 items0.length ci0, .slice ai1 items1.length ci1, .func (.func 58) #[] #[.pointer (some ⟨gc, 0, none⟩)]]) (show opAt (opsOf Try.f17 6) 5 = some (some 32, .call { callee := .value (.func 61), args := [(.tmp 28), (.tmp 30), (.tmp 31)].toArray, argTypes := [28, 28, 70].toArray }, none) from by kernel_rfl) (by kernel_rfl) (by kernel_rfl) (by kernel_rfl) (by kernel_rfl) ?_
      refine (CRI.out _ H.out).mono ?_
      rintro en rw1 ⟨vi, rfl, hit⟩
      obtain ⟨si, ni, ci, rfl⟩ := hit.form
      have OI := Lib.hid (own_of_its hit.row)
      have IR0 := Lib.hid hit.below.size
      have KR := Lib.hid (blk_below hit.below KR.out)
      have IR := Lib.hid hit
      refine ⟨_, rfl, heldC_call H.out hit.below, ?_⟩
      have SB := Lib.hid H.out.1.size
      have H := Lib.hid (heldC_call H.out hit.below)
      clear hit
      refine run_call (args := [.agg #[.int .i64 k0, .slice ai0 items0.length ci0, .slice ap0 parts0.length cp0, .slice an0 names0.length cn0, .slice ac0 cls0.length cc0, .slice al0 lev0.length cl0, .int .i64 code0, .int .i64 env0], .agg #[.int .i64 k1, .slice ai1 items1.length ci1, .slice ap1 parts1.length cp1, .slice an1 names1.length cn1, .slice ac1 cls1.length cc1, .slice al1 lev1.length cl1, .int .i64 code1, .int .i64 env1]]) (show opAt (opsOf Try.f17 6) 8 = some (some 35, .call { callee := .value (.func 62), args := [(.tmp 33), (.tmp 34)].toArray, argTypes := [31, 31].toArray }, none) from by kernel_rfl) (by kernel_rfl) (by kernel_rfl) (by kernel_rfl) (by kernel_rfl) ?_
      refine (CRN.out _ H.out).mono ?_
      rintro en rw2 ⟨⟨vn, rfl, hcp⟩, hb⟩
      have CP := Lib.hid hcp
      obtain ⟨sn, nn, cn, rfl⟩ : ∃ s n c, vn = .slice s n c := by obtain ⟨s, c, F, e, _⟩ := hcp; exact ⟨s, _, c, e⟩
      refine ⟨_, rfl, heldC_call H.out hb, ?_⟩
      have BN := Lib.hid hb
      have KR := Lib.hid (blk_below hb KR.out)
      have H := Lib.hid (heldC_call H.out hb)
      clear hcp hb
      refine run_bld (sa := si) (n := ni) (m := ci) (sb := sn) (n' := nn) (m' := cn) (show opAt (opsOf Try.f17 6) 9 = some (some 36, .build 31 #[(0, .const (.int .i64 1)), (1, .tmp 32), (3, .tmp 35)], none) from by kernel_rfl) (by kernel_rfl) (by kernel_rfl) (by kernel_rfl) (by kernel_rfl) H.out ?_
      refine run_store (w' := rw2.setRow (w.heap.size + 1 + 1) #[.int .i64 1, .slice si ni ci, .slice none 0 0, .slice sn nn cn, .slice none 0 0, .slice none 0 0, .int .i64 0, .int .i64 0]) (show opAt (opsOf Try.f17 6) 10 = some (none, .store 31 (.tmp 6) (.tmp 36), none) from by kernel_rfl) (by kernel_rfl) (by kernel_rfl) (by kernel_rfl) (store_vecN KR.out (by simp [Value.oneCell'])) ⟨below_row H.out.1 (show w.heap.size ≤ w.heap.size + 1 + 1 by omega) _, fun q hq => row_old (H.out.2 q hq) (by
        have := GW.out
        rcases List.mem_cons.1 hq with rfl | hq
        · simp only; omega
        rcases List.mem_cons.1 hq with rfl | hq
        · simp only; omega
        · obtain rfl := List.mem_singleton.1 hq
          simp only; omega)⟩ ?_
      refine run_asg (v := .string ⟨#[]⟩) (show opAt (opsOf Try.f17 6) 11 = some (some 7, .assign (.const (.string ⟨#[]⟩)), none) from by kernel_rfl) (by kernel_rfl) (by kernel_rfl) (by kernel_rfl) ?_
      refine run_done ?_
      simp only [putAll, Act.put, List.setIfInBounds_toArray, List.set_cons_zero, List.set_cons_succ]
      have XF := Lib.hid (show lgcV ⟨#[38]⟩ VA VB = mkN 1 (itF (fun i => logI (aL (truthI (items0.getD (i % items0.length) noI)) (truthI (items1.getD (i % items1.length) noI)))) (recN items0.length items1.length)) (namesR (recN items0.length items1.length) names0 names1) from by
        have la : lenV k0 items0.length parts0.length = items0.length := len_counts (by rw [hVA]; exact hv.1) (by rw [hVA]; exact hcc.1)
        have lb : lenV k1 items1.length parts1.length = items1.length := len_counts (by rw [hVB]; exact hv.2) (by rw [hVB]; exact hcc.2)
        have hN : (lgcN VA VB).toNat = recN items0.length items1.length := by rw [← EA.out, ← EB.out]; exact size_rec hnn
        have nA : namesV VA = names0 := by rw [← hVA]; rfl
        have nB : namesV VB = names1 := by rw [← hVB]; rfl
        have hF : (fun i => logI (lgcF ⟨#[38]⟩ VA VB i)) = (fun i => logI (aL (truthI (items0.getD (i % items0.length) noI)) (truthI (items1.getD (i % items1.length) noI)))) := by
          funext i
          unfold lgcF
          rw [conn_and, ← hVA, ← hVB]
          rfl
        rw [XV.out.1, hN, EA.out, EB.out, nA, nB, hF, names_same (by have := FA.h_names; rw [la] at this; exact this) (by have := FB.h_names; rw [lb] at this; exact this)])
      obtain ⟨a', c', Fi, e, o1, n1, r1, c1⟩ := OI.out
      obtain ⟨na, nc, Fn, e2, o2, n2, r2, c2⟩ := CP.out
      simp only [Value.slice.injEq] at e e2
      obtain ⟨rfl, rfl, rfl⟩ := e
      obtain ⟨rfl, rfl, rfl⟩ := e2
      have FIN := Lib.hid (own_pair (k := 1) (o1.kept (fun b hb => BN.out.block b (r1 b hb).2)) n1 r1 c1 o2 n2 r2 c2 (by have := IR0.out; omega) BN.out.size)
      have hr5 : w.heap.size + 1 + 1 < w4.heap.size := (Array.getElem?_eq_some_iff.1 KR4.out).1
      go_wp2
      rw [XF.out, XV.out.2]
      exact vec_ret0S rfl rfl rfl rfl (row_set KR.out) ⟨_, rfl, (by
        obtain ⟨F, q1, q2, q3⟩ := FIN.out.out
        exact ⟨F, q1.kept _ _ _ _ (fun b hb => row_old rfl (by have h9 : w4.heap.size ≤ b := (q3 b hb).1; omega)), q2, fun b hb => ⟨Nat.le_trans (show w.heap.size ≤ w4.heap.size by omega) (q3 b hb).1, Nat.lt_of_lt_of_le (q3 b hb).2 (below_row (Below.refl 0 rw2) (Nat.zero_le _) _).size⟩⟩), below_row H.out.1 (show w.heap.size ≤ w.heap.size + 1 + 1 by omega) _⟩
    · have XX := Lib.hid (lgcV_no (op := ⟨#[38]⟩) (a := VA) (b := VB) (by rw [bB_yes hop]; exact hp))
      obtain ⟨R, hR⟩ : ∃ R, prbB true VA VB nonLogB = R := ⟨_, rfl⟩
      rw [hR] at hp XS ⊢
      have hRb : (R.toList == []) = false := by have h := str_not hp; rw [ByteArray.toList_eq ⟨#[]⟩] at h; exact h
      clear hp hR hop
      obtain ⟨z0, z1, z2, z3, z4, z5, z6, z7⟩ := vec8 KR.out
      obtain ⟨f0, f1, f2, f3, f4, f5, f6, f7⟩ := free8 KR.out
      go_wp2
      rw [XX.out, XS.out]
      exact vec_endS rfl rfl rfl rfl KR.out (zeroS _ w _ (put8_below B4.out (show w.heap.size ≤ w.heap.size + 1 + 1 by omega)))
  · by_cases hor : op = ⟨#[124]⟩
    · subst hor
      have hop : (⟨#[124]⟩ : ByteArray) = andB ∨ (⟨#[124]⟩ : ByteArray) = orB := .inr rfl
      clear hand
      have lk := look_or MP.out
      go_wp2_with fail
      obtain ⟨w3, hw3⟩ : ∃ W, w2.alloc (.cells #[.func (.func 98) #[] #[]] 60) = W := ⟨_, rfl⟩
      have B3 := Lib.hid (show Below w.heap.size w w3 from hw3 ▸ B2.out.alloc B2.out.size _)
      have KF := Lib.hid (show w3.heap[w2.heap.size]? = some (.cells #[.func (.func 98) #[] #[]] 60 (0, 0)) from hw3 ▸ blk_new w2 _ rfl)
      have KA := Lib.hid (show w3.heap[w.heap.size]? = some (.cells #[.int .i64 k0, .slice ai0 items0.length ci0, .slice ap0 parts0.length cp0, .slice an0 names0.length cn0, .slice ac0 cls0.length cc0, .slice al0 lev0.length cl0, .int .i64 code0, .int .i64 env0] 31 (0, 0)) from hw3 ▸ blk_old KA.out)
      have KB := Lib.hid (show w3.heap[w.heap.size + 1]? = some (.cells #[.int .i64 k1, .slice ai1 items1.length ci1, .slice ap1 parts1.length cp1, .slice an1 names1.length cn1, .slice ac1 cls1.length cc1, .slice al1 lev1.length cl1, .int .i64 code1, .int .i64 env1] 31 (0, 0)) from hw3 ▸ blk_old KB.out)
      have KR := Lib.hid (show w3.heap[w.heap.size + 1 + 1]? = some (.cells #[.int .i64 0, .slice none 0 0, .slice none 0 0, .slice none 0 0, .slice none 0 0, .slice none 0 0, .int .i64 0, .int .i64 0] 31 (0, 0)) from hw3 ▸ blk_old KR.out)
      have GW := Lib.hid (show w.heap.size + 1 + 1 < w2.heap.size from hgw2)
      rw [hw3]
      clear hw3 lk
      obtain ⟨gc, hgc⟩ : ∃ g, w2.heap.size = g := ⟨_, rfl⟩
      rw [hgc] at KF GW ⊢
      clear hgc ka0 ka1 ka2 ka3 ka4 ka5 ka6 ka7 kb0 kb1 kb2 kb3 kb4 kb5 kb6 kb7
      obtain ⟨ka0, ka1, ka2, ka3, ka4, ka5, ka6, ka7⟩ := vec8 KA.out
      obtain ⟨kb0, kb1, kb2, kb3, kb4, kb5, kb6, kb7⟩ := vec8 KB.out
      go_wp2_with fail
      refine (PB.out w3 B3.out true).mono ?_
      rintro e w4 ⟨rfl, b⟩
      have B4 := Lib.hid (below_then B3.out b)
      have KA := Lib.hid (blk_below b KA.out)
      have KB := Lib.hid (blk_below b KB.out)
      have KR := Lib.hid (blk_below b KR.out)
      have KF := Lib.hid (blk_below b KF.out)
      clear b ka0 ka1 ka2 ka3 ka4 ka5 ka6 ka7 kb0 kb1 kb2 kb3 kb4 kb5 kb6 kb7
      have XS := Lib.hid (show lgcS ⟨#[124]⟩ VA VB = prbB true VA VB nonLogB by rw [lgcS_prb, bB_yes hop])
      by_cases hp : prbB true VA VB nonLogB = ⟨#[]⟩
      · have OK := Lib.hid (lgcV_ok (op := ⟨#[124]⟩) (a := VA) (b := VB) (by rw [bB_yes hop]; exact hp))
        rw [hp]
        rw [hp] at XS
        obtain ⟨hv, _, hcc, hnn⟩ := OK.out
        have XV := Lib.hid (lgc_yes hv hop hcc hnn)
        have EA := Lib.hid (show itL VA = items0.length by rw [← hVA]; rfl)
        have EB := Lib.hid (show itL VB = items1.length by rw [← hVB]; rfl)
        have ma : items0.length ≤ 40 := by rw [← EA.out]; exact itL_le hv.1 hcc.1
        have mb : items1.length ≤ 40 := by rw [← EB.out]; exact itL_le hv.2 hcc.2
        have XA : ∀ i, i < items0.length → NumIt (items0.getD i noI) := fun i hi => num_at (by rw [hVA]; exact hv.1) (by rw [hVA]; exact hcc.1) hi
        have XB : ∀ i, i < items1.length → NumIt (items1.getD i noI) := fun i hi => num_at (by rw [hVB]; exact hv.2) (by rw [hVB]; exact hcc.2) hi
        have FA : FlatOk k0 items0 parts0.length names0 cls0 lev0 code0 env0 := by have h := hv.1; rw [← hVA] at h; exact h.1.flat
        have FB : FlatOk k1 items1 parts1.length names1 cls1 lev1 code1 env1 := by have h := hv.2; rw [← hVB] at h; exact h.1.flat
        have CRI := Lib.hid (fun (W : World) (hH : HeldC w W ([(w.heap.size, 31, #[.int .i64 k0, .slice ai0 items0.length ci0, .slice ap0 parts0.length cp0, .slice an0 names0.length cn0, .slice ac0 cls0.length cc0, .slice al0 lev0.length cl0, .int .i64 code0, .int .i64 env0]), ((w.heap.size + 1), 31, #[.int .i64 k1, .slice ai1 items1.length ci1, .slice ap1 parts1.length cp1, .slice an1 names1.length cn1, .slice ac1 cls1.length cc1, .slice al1 lev1.length cl1, .int .i64 code1, .int .i64 env1]), (gc, 60, #[.func (.func 98) #[] #[]])])) => implRecIts 58 #[.pointer (some ⟨gc, 0, none⟩)] (fun x y => logI (oL (truthI x) (truthI y))) items0 items1 ai0 ai1 ci0 ci1 lo hi items0.length items1.length W (hI0.below hH.1 hhi) (hI1.below hH.1 hhi) (Nat.le_trans hhi hH.1.size) rfl rfl ma mb (by kernel_rfl)
          (fun i j W' hi' hj' hb' => implClo 98 oL (items0.getD i noI) (items1.getD j noI) gc W' (by kernel_rfl) (fun W => (implOr3 _ _ W (truth_three _) (truth_three _)).mono (by rintro e w' ⟨rfl, rfl⟩; exact ⟨rfl, Below.refl _ _⟩)) (oL_three _ _) (XA i hi') (XB j hj') (blk_below hb' (heldC_at hH (List.Mem.tail _ (List.Mem.tail _ (List.Mem.head _)))))))
        have CRN := Lib.hid (fun (W : World) (hH : HeldC w W ([(w.heap.size, 31, #[.int .i64 k0, .slice ai0 items0.length ci0, .slice ap0 parts0.length cp0, .slice an0 names0.length cn0, .slice ac0 cls0.length cc0, .slice al0 lev0.length cl0, .int .i64 code0, .int .i64 env0]), ((w.heap.size + 1), 31, #[.int .i64 k1, .slice ai1 items1.length ci1, .slice ap1 parts1.length cp1, .slice an1 names1.length cn1, .slice ac1 cls1.length cc1, .slice al1 lev1.length cl1, .int .i64 code1, .int .i64 env1]), (gc, 60, #[.func (.func 98) #[] #[]])])) => implRecNames k0 names0 ai0 ap0 an0 ac0 al0 items0.length ci0 parts0.length cp0 cn0 cls0.length cc0 lev0.length cl0 code0 env0 k1 names1 ai1 ap1 an1 ac1 al1 items1.length ci1 parts1.length cp1 cn1 cls1.length cc1 lev1.length cl1 code1 env1 lo hi W (hN0.below hH.1 hhi) (hN1.below hH.1 hhi) (Nat.le_trans hhi hH.1.size) ln0 ln1 li0 li1)
        go_upto_region 6 with (fail)
        have KR4 := KR
        have H := Lib.hid (show HeldC w w4 ([(w.heap.size, 31, #[.int .i64 k0, .slice ai0 items0.length ci0, .slice ap0 parts0.length cp0, .slice an0 names0.length cn0, .slice ac0 cls0.length cc0, .slice al0 lev0.length cl0, .int .i64 code0, .int .i64 env0]), ((w.heap.size + 1), 31, #[.int .i64 k1, .slice ai1 items1.length ci1, .slice ap1 parts1.length cp1, .slice an1 names1.length cn1, .slice ac1 cls1.length cc1, .slice al1 lev1.length cl1, .int .i64 code1, .int .i64 env1]), (gc, 60, #[.func (.func 98) #[] #[]])]) from heldC_cons (heldC_cons (heldC_cons ⟨B4.out, (fun _ h => by cases h)⟩ KF.out) KB.out) KA.out)
        refine run_region (ops := (opsOf Try.f17 6)) (S := fun w' => HeldC w w' ([(w.heap.size, 31, #[.int .i64 k0, .slice ai0 items0.length ci0, .slice ap0 parts0.length cp0, .slice an0 names0.length cn0, .slice ac0 cls0.length cc0, .slice al0 lev0.length cl0, .int .i64 code0, .int .i64 env0]), ((w.heap.size + 1), 31, #[.int .i64 k1, .slice ai1 items1.length ci1, .slice ap1 parts1.length cp1, .slice an1 names1.length cn1, .slice ac1 cls1.length cc1, .slice al1 lev1.length cl1, .int .i64 code1, .int .i64 env1]), (gc, 60, #[.func (.func 98) #[] #[]])])) [(0, true), (1, true), (2, true), (3, true), (4, true), (6, true), (7, true), (5, false), (8, false), (9, false), (10, false), (11, true)] (by kernel_rfl) (by kernel_rfl) (by kernel_rfl) (by kernel_rfl) (by kernel_rfl) (fun _ _ _ _ _ h => h) (heldC_drew H.out) ?_
        have H := Lib.hid (heldC_drew H.out)
        have KR := Lib.hid (blk_below (below_drew' (Below.refl _ _)) KR.out)
        refine runC_partV (b := w.heap.size) (by kernel_rfl) (show opAt (opsOf Try.f17 6) 0 = some (some 27, .fieldAddr 31 (.tmp 4) 1, none) from by kernel_rfl) (by kernel_rfl) (by kernel_rfl) (by kernel_rfl) ?_
        refine runC_cell (b := w.heap.size) (j := 1) (v := .slice ai0 items0.length ci0) load_its (show opAt (opsOf Try.f17 6) 1 = some (some 28, .load 28 (.tmp 27), none) from by kernel_rfl) (by kernel_rfl) (by kernel_rfl) (by kernel_rfl) (List.Mem.head _) rfl ?_
        refine runC_partV (b := (w.heap.size + 1)) (by kernel_rfl) (show opAt (opsOf Try.f17 6) 2 = some (some 29, .fieldAddr 31 (.tmp 5) 1, none) from by kernel_rfl) (by kernel_rfl) (by kernel_rfl) (by kernel_rfl) ?_
        refine runC_cell (b := (w.heap.size + 1)) (j := 1) (v := .slice ai1 items1.length ci1) load_its (show opAt (opsOf Try.f17 6) 3 = some (some 30, .load 28 (.tmp 29), none) from by kernel_rfl) (by kernel_rfl) (by kernel_rfl) (by kernel_rfl) (List.Mem.tail _ (List.Mem.head _)) rfl ?_
        refine run_mov (v := .func (.func 58) #[] #[.pointer (some ⟨gc, 0, none⟩)]) (show opAt (opsOf Try.f17 6) 4 = some (some 31, .move (.tmp 11), none) from by kernel_rfl) (by kernel_rfl) (by kernel_rfl) (by kernel_rfl) ?_
        refine runC_vec (b := w.heap.size) (show opAt (opsOf Try.f17 6) 6 = some (some 33, .load 31 (.tmp 4), none) from by kernel_rfl) (by kernel_rfl) (by kernel_rfl) (by kernel_rfl) (List.Mem.head _) ?_
        refine runC_vec (b := (w.heap.size + 1)) (show opAt (opsOf Try.f17 6) 7 = some (some 34, .load 31 (.tmp 5), none) from by kernel_rfl) (by kernel_rfl) (by kernel_rfl) (by kernel_rfl) (List.Mem.tail _ (List.Mem.head _)) ?_
        refine run_call (args := [.slice ai0 items0.length ci0, .slice ai1 items1.length ci1, .func (.func 58) #[] #[.pointer (some ⟨gc, 0, none⟩)]]) (show opAt (opsOf Try.f17 6) 5 = some (some 32, .call { callee := .value (.func 61), args := [(.tmp 28), (.tmp 30), (.tmp 31)].toArray, argTypes := [28, 28, 70].toArray }, none) from by kernel_rfl) (by kernel_rfl) (by kernel_rfl) (by kernel_rfl) (by kernel_rfl) ?_
        refine (CRI.out _ H.out).mono ?_
        rintro en rw1 ⟨vi, rfl, hit⟩
        obtain ⟨si, ni, ci, rfl⟩ := hit.form
        have OI := Lib.hid (own_of_its hit.row)
        have IR0 := Lib.hid hit.below.size
        have KR := Lib.hid (blk_below hit.below KR.out)
        have IR := Lib.hid hit
        refine ⟨_, rfl, heldC_call H.out hit.below, ?_⟩
        have SB := Lib.hid H.out.1.size
        have H := Lib.hid (heldC_call H.out hit.below)
        clear hit
        refine run_call (args := [.agg #[.int .i64 k0, .slice ai0 items0.length ci0, .slice ap0 parts0.length cp0, .slice an0 names0.length cn0, .slice ac0 cls0.length cc0, .slice al0 lev0.length cl0, .int .i64 code0, .int .i64 env0], .agg #[.int .i64 k1, .slice ai1 items1.length ci1, .slice ap1 parts1.length cp1, .slice an1 names1.length cn1, .slice ac1 cls1.length cc1, .slice al1 lev1.length cl1, .int .i64 code1, .int .i64 env1]]) (show opAt (opsOf Try.f17 6) 8 = some (some 35, .call { callee := .value (.func 62), args := [(.tmp 33), (.tmp 34)].toArray, argTypes := [31, 31].toArray }, none) from by kernel_rfl) (by kernel_rfl) (by kernel_rfl) (by kernel_rfl) (by kernel_rfl) ?_
        refine (CRN.out _ H.out).mono ?_
        rintro en rw2 ⟨⟨vn, rfl, hcp⟩, hb⟩
        have CP := Lib.hid hcp
        obtain ⟨sn, nn, cn, rfl⟩ : ∃ s n c, vn = .slice s n c := by obtain ⟨s, c, F, e, _⟩ := hcp; exact ⟨s, _, c, e⟩
        refine ⟨_, rfl, heldC_call H.out hb, ?_⟩
        have BN := Lib.hid hb
        have KR := Lib.hid (blk_below hb KR.out)
        have H := Lib.hid (heldC_call H.out hb)
        clear hcp hb
        refine run_bld (sa := si) (n := ni) (m := ci) (sb := sn) (n' := nn) (m' := cn) (show opAt (opsOf Try.f17 6) 9 = some (some 36, .build 31 #[(0, .const (.int .i64 1)), (1, .tmp 32), (3, .tmp 35)], none) from by kernel_rfl) (by kernel_rfl) (by kernel_rfl) (by kernel_rfl) (by kernel_rfl) H.out ?_
        refine run_store (w' := rw2.setRow (w.heap.size + 1 + 1) #[.int .i64 1, .slice si ni ci, .slice none 0 0, .slice sn nn cn, .slice none 0 0, .slice none 0 0, .int .i64 0, .int .i64 0]) (show opAt (opsOf Try.f17 6) 10 = some (none, .store 31 (.tmp 6) (.tmp 36), none) from by kernel_rfl) (by kernel_rfl) (by kernel_rfl) (by kernel_rfl) (store_vecN KR.out (by simp [Value.oneCell'])) ⟨below_row H.out.1 (show w.heap.size ≤ w.heap.size + 1 + 1 by omega) _, fun q hq => row_old (H.out.2 q hq) (by
          have := GW.out
          rcases List.mem_cons.1 hq with rfl | hq
          · simp only; omega
          rcases List.mem_cons.1 hq with rfl | hq
          · simp only; omega
          · obtain rfl := List.mem_singleton.1 hq
            simp only; omega)⟩ ?_
        refine run_asg (v := .string ⟨#[]⟩) (show opAt (opsOf Try.f17 6) 11 = some (some 7, .assign (.const (.string ⟨#[]⟩)), none) from by kernel_rfl) (by kernel_rfl) (by kernel_rfl) (by kernel_rfl) ?_
        refine run_done ?_
        simp only [putAll, Act.put, List.setIfInBounds_toArray, List.set_cons_zero, List.set_cons_succ]
        have XF := Lib.hid (show lgcV ⟨#[124]⟩ VA VB = mkN 1 (itF (fun i => logI (oL (truthI (items0.getD (i % items0.length) noI)) (truthI (items1.getD (i % items1.length) noI)))) (recN items0.length items1.length)) (namesR (recN items0.length items1.length) names0 names1) from by
          have la : lenV k0 items0.length parts0.length = items0.length := len_counts (by rw [hVA]; exact hv.1) (by rw [hVA]; exact hcc.1)
          have lb : lenV k1 items1.length parts1.length = items1.length := len_counts (by rw [hVB]; exact hv.2) (by rw [hVB]; exact hcc.2)
          have hN : (lgcN VA VB).toNat = recN items0.length items1.length := by rw [← EA.out, ← EB.out]; exact size_rec hnn
          have nA : namesV VA = names0 := by rw [← hVA]; rfl
          have nB : namesV VB = names1 := by rw [← hVB]; rfl
          have hF : (fun i => logI (lgcF ⟨#[124]⟩ VA VB i)) = (fun i => logI (oL (truthI (items0.getD (i % items0.length) noI)) (truthI (items1.getD (i % items1.length) noI)))) := by
            funext i
            unfold lgcF
            rw [conn_or (by decide), ← hVA, ← hVB]
            rfl
          rw [XV.out.1, hN, EA.out, EB.out, nA, nB, hF, names_same (by have := FA.h_names; rw [la] at this; exact this) (by have := FB.h_names; rw [lb] at this; exact this)])
        obtain ⟨a', c', Fi, e, o1, n1, r1, c1⟩ := OI.out
        obtain ⟨na, nc, Fn, e2, o2, n2, r2, c2⟩ := CP.out
        simp only [Value.slice.injEq] at e e2
        obtain ⟨rfl, rfl, rfl⟩ := e
        obtain ⟨rfl, rfl, rfl⟩ := e2
        have FIN := Lib.hid (own_pair (k := 1) (o1.kept (fun b hb => BN.out.block b (r1 b hb).2)) n1 r1 c1 o2 n2 r2 c2 (by have := IR0.out; omega) BN.out.size)
        have hr5 : w.heap.size + 1 + 1 < w4.heap.size := (Array.getElem?_eq_some_iff.1 KR4.out).1
        go_wp2
        rw [XF.out, XV.out.2]
        exact vec_ret0S rfl rfl rfl rfl (row_set KR.out) ⟨_, rfl, (by
          obtain ⟨F, q1, q2, q3⟩ := FIN.out.out
          exact ⟨F, q1.kept _ _ _ _ (fun b hb => row_old rfl (by have h9 : w4.heap.size ≤ b := (q3 b hb).1; omega)), q2, fun b hb => ⟨Nat.le_trans (show w.heap.size ≤ w4.heap.size by omega) (q3 b hb).1, Nat.lt_of_lt_of_le (q3 b hb).2 (below_row (Below.refl 0 rw2) (Nat.zero_le _) _).size⟩⟩), below_row H.out.1 (show w.heap.size ≤ w.heap.size + 1 + 1 by omega) _⟩
      · have XX := Lib.hid (lgcV_no (op := ⟨#[124]⟩) (a := VA) (b := VB) (by rw [bB_yes hop]; exact hp))
        obtain ⟨R, hR⟩ : ∃ R, prbB true VA VB nonLogB = R := ⟨_, rfl⟩
        rw [hR] at hp XS ⊢
        have hRb : (R.toList == []) = false := by have h := str_not hp; rw [ByteArray.toList_eq ⟨#[]⟩] at h; exact h
        clear hp hR hop
        obtain ⟨z0, z1, z2, z3, z4, z5, z6, z7⟩ := vec8 KR.out
        obtain ⟨f0, f1, f2, f3, f4, f5, f6, f7⟩ := free8 KR.out
        go_wp2
        rw [XX.out, XS.out]
        exact vec_endS rfl rfl rfl rfl KR.out (zeroS _ w _ (put8_below B4.out (show w.heap.size ≤ w.heap.size + 1 + 1 by omega)))
    · have hop : ¬ (op = andB ∨ op = orB) := fun h => h.elim hand hor
      have f1 : (op == (⟨#[38]⟩ : ByteArray)) = false := bytes_ne hand
      have f2 : (op == (⟨#[124]⟩ : ByteArray)) = false := bytes_ne hor
      have lk := run_look_no (P := Try.prog) (s := op) (z := .nilFunc) Try.underlying62 Try.underlying9 MP.out (by simp [opTab, Instr.findNow, Instr.sameNow, f1, f2]) (by kernel_rfl)
      go_wp2_with fail
      obtain ⟨w3, hw3⟩ : ∃ W, w2.alloc (.cells #[.nilFunc] 60) = W := ⟨_, rfl⟩
      have B3 := Lib.hid (show Below w.heap.size w w3 from hw3 ▸ B2.out.alloc B2.out.size _)
      have KR := Lib.hid (show w3.heap[w.heap.size + 1 + 1]? = some (.cells #[.int .i64 0, .slice none 0 0, .slice none 0 0, .slice none 0 0, .slice none 0 0, .slice none 0 0, .int .i64 0, .int .i64 0] 31 (0, 0)) from hw3 ▸ blk_old KR.out)
      rw [hw3]
      clear hw3 lk
      refine (PB.out w3 B3.out false).mono ?_
      rintro e w4 ⟨rfl, b⟩
      have B4 := Lib.hid (below_then B3.out b)
      have KR := Lib.hid (blk_below b KR.out)
      clear b ka0 ka1 ka2 ka3 ka4 ka5 ka6 ka7 kb0 kb1 kb2 kb3 kb4 kb5 kb6 kb7
      have XS := Lib.hid (show lgcS op VA VB = prbB false VA VB nonLogB by rw [lgcS_prb, bB_no hop])
      have hp : prbB false VA VB nonLogB ≠ ⟨#[]⟩ := by
        unfold prbB
        cases bB (ValidV VA ∧ ValidV VB)
        · exact (by decide : badB ≠ ⟨#[]⟩)
        · exact (by decide : unkB ≠ ⟨#[]⟩)
      have XX := Lib.hid (lgcV_no (op := op) (a := VA) (b := VB) (by rw [bB_no hop]; exact hp))
      obtain ⟨R, hR⟩ : ∃ R, prbB false VA VB nonLogB = R := ⟨_, rfl⟩
      rw [hR] at hp XS ⊢
      have hRb : (R.toList == []) = false := by have h := str_not hp; rw [ByteArray.toList_eq ⟨#[]⟩] at h; exact h
      clear hp hR hop
      obtain ⟨z0, z1, z2, z3, z4, z5, z6, z7⟩ := vec8 KR.out
      obtain ⟨f0, f1, f2, f3, f4, f5, f6, f7⟩ := free8 KR.out
      go_wp2
      rw [XX.out, XS.out]
      exact vec_endS rfl rfl rfl rfl KR.out (zeroS _ w _ (put8_below B4.out (show w.heap.size ≤ w.heap.size + 1 + 1 by omega)))
end Go.Proofs.Ytlnjjjoeblopeaa

/- CumulativeOf as data; rows of items beside a variable that changes. -/
namespace Go.Proofs.Ytlnjjjoeblopeaa
open Go.RowKit
set_option maxRecDepth 100000
set_option linter.unusedVariables false

theorem smyL_false {v : Vec} (h : ValidV v) (hc : Counts v) : smyL false v = itemsV v := by
  rw [(smy_yes h hc (fun _ => noI) false nonNumB).1, pickL_no]
noncomputable def cumV (v : Vec) : Vec := match bB (ValidV v ∧ Counts v) with | true => mkN 2 (runL (smyL false v)) (namesV v) | false => noV
theorem cum_val {v : Vec} (h : smyS nonNumB v = ⟨#[]⟩) : cumV v = mkN 2 (runL (smyL false v)) (namesV v) := by
  have := smy_empty (by decide) h
  unfold cumV
  rw [bB_yes this]
theorem cum_not {v : Vec} (h : ¬ smyS nonNumB v = ⟨#[]⟩) : cumV v = noV := by
  unfold cumV
  rw [bB_no]
  rintro ⟨a, b⟩
  exact h (smy_yes a b (fun _ => noI) false nonNumB).2.1
theorem runL_len (l : List It) : (runL l).length = l.length := itF_len _ _
theorem cum_plain {d : Nat} {v : Vec} (hsm : Small d v) : PlainN (cumV v) := by
  unfold cumV
  split
  · cases d with
    | zero => exact hsm.elim
    | succ d =>
      have hl := smyL_len false v
      obtain ⟨k, items, parts, names, cls, levels, code, env⟩ := v
      refine .inr ⟨_, _, _, rfl, by decide, by rw [runL_len]; exact hl, fun x hx => ?_, hsm.2.2.1, hsm.2.2.2.2.2.2.1⟩
      obtain ⟨i, _, rfl⟩ := mem_itF hx
      have := good_sumL (List.take (i + 1) (smyL false (.mk k items parts names cls levels code env)))
      exact ⟨this.1, by rw [this.2]; exact Nat.zero_le _⟩
  · exact .inl rfl
theorem ownsRow_apart {w w' : World} {B size n : Nat} {el : TypeId} {v : Value} {xs : List Value} (h : w.ownsRow B el size v n xs) (hk : ∀ b, B ≤ b → v.ownBlock = some b → w'.heap[b]? = w.heap[b]?) : w'.ownsRow B el size v n xs := by
  obtain ⟨a, h⟩ := h
  refine ⟨a, ?_⟩
  rcases h with h | ⟨g, cap, cur, e, hB, hb, r⟩
  · exact .inl h
  · exact .inr ⟨g, cap, cur, e, hB, (hk g hB (by rw [e]; rfl)).trans hb, r⟩
/-- An item appended to a row from a base on. -/
theorem wpList_appRow {w : World} {B : Nat} {ops : Array Oper} {rest : List Oper} {o : Oper} {a : Act} {Q : Exit → Act → World → Prop} (hgd : o.guard = none) (s x : Operand)
    (ho : o.op = .call { callee := .builtin .append, args := #[s, x], argTypes := #[28, 28] }) (z : It) (l : List It) (v0 : Value) (b : Nat) (hs : a.eval s = v0) (hx : a.eval x = .slice (some ⟨b, 0, none⟩) 1 1)
    (hr : w.ownsRow B 66 3 v0 l.length (itCells l)) (hB : B ≤ w.heap.size) (hb : w.heap[b]? = some (.cells #[.int .i64 z.n, .int .i64 z.d, .string z.t] 66 (0, 0))) (hn : l.length ≤ 1048576)
    (h : ∀ v' w', w'.ownsRow B 66 3 v' (l ++ [z]).length (itCells (l ++ [z])) → Below B w w' → wpList Try.prog ops Q rest (a.put o.dst v') w') : wpList Try.prog ops Q (o :: rest) a w := by
  obtain ⟨i0, hi0, hz0, hz1, hz2⟩ := info_parts infoItm3
  refine wpList_append_own w hgd s x 28 ho B 66 i0 _ 3 32 Try.underlying28 hi0 hz0 hz1 hz2 rfl (by decide) v0 l.length (itCells l) hs hr ⟨b, 0, none⟩ 1 1 (itCells [z]) hx rfl (fun j u hj => ?_) (itCells_one _) (by unfold maxLen; omega) (by omega) hB (fun v' w' h1 h2 _ => ?_)
  · have hlt : j < 3 := by have := (List.getElem?_eq_some_iff.1 hj).1; simpa [itCells] using this
    rw [addr_add, Nat.zero_add]
    refine cellOf hb ?_
    rw [← hj]
    rcases (show j = 0 ∨ j = 1 ∨ j = 2 by omega) with rfl | rfl | rfl <;> rfl
  · have e1 : l.length + 1 = (l ++ [z]).length := by simp
    have e2 : itCells l ++ itCells [z] = itCells (l ++ [z]) := (itCells_app l [z]).symm
    rw [e1, e2] at h1
    exact h v' w' h1 ((Below.refl B w).grown h2 hB (fun r hr' => (hr.lt r hr').1))
theorem blk_set3'' {w : World} {a g : Nat} {x y z : Value} (hg : a ≠ g) : (((w.setCell ⟨g, 0, none⟩ x).setCell ⟨g, 1, none⟩ y).setCell ⟨g, 2, none⟩ z).heap[a]? = w.heap[a]? := by
  rw [Below.heap_setCell _ _ _ _ hg, Below.heap_setCell _ _ _ _ hg, Below.heap_setCell _ _ _ _ hg]
/-- What the loop of runningSums keeps: the sums so far, the last one in a variable. -/
structure RunR (w wr : World) (B g : Nat) (l : List It) (s : It) (v : Value) : Prop where
  row : wr.ownsRow B 66 3 v l.length (itCells l)
  below : Below w.heap.size w wr
  num : wr.heap[g]? = some (.cells #[.int .i64 s.n, .int .i64 s.d, .string s.t] 66 (0, 0))
  big : B ≤ wr.heap.size
theorem RunR.keep {w wr w1 : World} {B g : Nat} {l : List It} {s : It} {v : Value} (h : RunR w wr B g l s v) (hb : Below wr.heap.size wr w1) : RunR w w1 B g l s v :=
  ⟨ownsRow_below h.row hb, below_then h.below hb, blk_below hb h.num, Nat.le_trans h.big hb.size⟩
theorem RunR.set {w wr : World} {B g : Nat} {l : List It} {s z : It} {v : Value} (h : RunR w wr B g l s v) (hg : g < B) (hw : w.heap.size ≤ g) : RunR w (((wr.setCell ⟨g, 0, none⟩ (.int .i64 z.n)).setCell ⟨g, 1, none⟩ (.int .i64 z.d)).setCell ⟨g, 2, none⟩ (.string z.t)) B g l z v :=
  ⟨ownsRow_apart h.row (fun b hb _ => blk_set3'' (by omega)), below_three h.below hw _ _ _, cells_set3 h.num, by simpa using h.big⟩
/-- What the reference's loop keeps: the vector and its names, the sums so far, the last one in a variable. -/
structure CumR (w wr : World) (b g : Nat) (l : List It) (s : It) (sa : Option Addr) (sn sc : Nat) (names : List ByteArray) (na : Option Addr) (nc : Nat) (F : List Nat) : Prop where
  vec : wr.heap[b]? = some (.cells #[.int .i64 2, .slice sa sn sc, .slice none 0 0, .slice na names.length nc, .slice none 0 0, .slice none 0 0, .int .i64 0, .int .i64 0] 31 (0, 0))
  num : wr.heap[g]? = some (.cells #[.int .i64 s.n, .int .i64 s.d, .string s.t] 66 (0, 0))
  row : wr.ownsRow (g + 1) 66 3 (.slice sa sn sc) l.length (itCells l)
  nms : OwnTxs wr na names F
  cap : names.length ≤ nc
  nd : F.Nodup
  rng : ∀ x ∈ F, w.heap.size ≤ x ∧ x < b
  below : Below w.heap.size w wr
  o1 : w.heap.size ≤ b
  o2 : b < g
theorem CumR.big {w wr : World} {b g : Nat} {l : List It} {s : It} {sa : Option Addr} {sn sc : Nat} {names : List ByteArray} {na : Option Addr} {nc : Nat} {F : List Nat} (h : CumR w wr b g l s sa sn sc names na nc F) : g < wr.heap.size := (Array.getElem?_eq_some_iff.1 h.num).1
theorem CumR.keep {w wr w1 : World} {b g : Nat} {l : List It} {s : It} {sa : Option Addr} {sn sc : Nat} {names : List ByteArray} {na : Option Addr} {nc : Nat} {F : List Nat} (h : CumR w wr b g l s sa sn sc names na nc F) (hb : Below wr.heap.size wr w1) : CumR w w1 b g l s sa sn sc names na nc F :=
  ⟨blk_below hb h.vec, blk_below hb h.num, ownsRow_below h.row hb, h.nms.kept (fun x hx => hb.block x (by have := h.rng x hx; have := h.big; have := h.o2; omega)), h.cap, h.nd, h.rng, below_then h.below hb, h.o1, h.o2⟩
theorem CumR.put {w wr : World} {b g : Nat} {l : List It} {s z : It} {sa : Option Addr} {sn sc : Nat} {names : List ByteArray} {na : Option Addr} {nc : Nat} {F : List Nat} (h : CumR w wr b g l s sa sn sc names na nc F) : CumR w (wr.setRow g #[.int .i64 z.n, .int .i64 z.d, .string z.t]) b g l z sa sn sc names na nc F :=
  ⟨row_old h.vec (by have := h.o2; omega), row_set h.num, ownsRow_apart h.row (fun x hx _ => row_old rfl (by omega)), h.nms.kept (fun x hx => row_old rfl (by have := h.rng x hx; have := h.o2; omega)), h.cap, h.nd, h.rng, below_row h.below (by have := h.o1; have := h.o2; omega) _, h.o1, h.o2⟩
theorem CumR.next {w wr W : World} {b g : Nat} {l : List It} {s z : It} {sa sa' : Option Addr} {sn sc sn' sc' : Nat} {names : List ByteArray} {na : Option Addr} {nc : Nat} {F : List Nat} (h : CumR w wr b g l s sa sn sc names na nc F)
    (hK : W.heap[b]? = some (.cells (#[.int .i64 2, .slice sa sn sc, .slice none 0 0, .slice na names.length nc, .slice none 0 0, .slice none 0 0, .int .i64 0, .int .i64 0].setIfInBounds 1 (.slice sa' sn' sc')) 31 (0, 0)))
    (hO : W.ownsRow (g + 1) 66 3 (.slice sa' sn' sc') (l ++ [z]).length (itCells (l ++ [z]))) (hB : Below w.heap.size w W)
    (hN : W.heap[g]? = some (.cells #[.int .i64 s.n, .int .i64 s.d, .string s.t] 66 (0, 0))) (hF : ∀ x ∈ F, W.heap[x]? = wr.heap[x]?) : CumR w W b g (l ++ [z]) s sa' sn' sc' names na nc F :=
  ⟨hK, hN, hO, h.nms.kept hF, h.cap, h.nd, h.rng, hB, h.o1, h.o2⟩
theorem CumR.own {w wr : World} {b g : Nat} {l : List It} {s : It} {sa : Option Addr} {sn sc : Nat} {names : List ByteArray} {na : Option Addr} {nc : Nat} {F : List Nat} (h : CumR w wr b g l s sa sn sc names na nc F) :
    Own 1 (mkN 2 l names) (.agg #[.int .i64 2, .slice sa sn sc, .slice none 0 0, .slice na names.length nc, .slice none 0 0, .slice none 0 0, .int .i64 0, .int .i64 0]) w.heap.size wr.heap.size wr := by
  obtain ⟨a, c, Fi, e, ho, hn, hr, hc⟩ := own_of_its h.row
  obtain ⟨rfl, rfl, rfl⟩ : sa = a ∧ sn = l.length ∧ sc = c := by simpa using e
  refine ⟨Fi ++ F, ?_, ?_, ?_⟩
  · show OwnVec wr 1 (.mk 2 l [] names [] [] 0 0) _ _
    unfold OwnVec
    exact ⟨sa, sc, none, 0, na, nc, none, 0, none, 0, Fi, [], F, [], [], rfl, by simp, ⟨hc, Nat.le_refl _, h.cap, Nat.le_refl _, Nat.le_refl _⟩, ho, h.nms, .inl ⟨rfl, rfl⟩, .inl ⟨rfl, rfl⟩, .inl ⟨rfl, rfl⟩⟩
  · rw [List.nodup_append]
    exact ⟨hn, h.nd, fun x hx y hy e => by have := hr x hx; have := h.rng y hy; have := h.o2; omega⟩
  · intro x hx
    have h1 := h.o1; have h2 := h.o2; have h3 := h.big
    rcases List.mem_append.1 hx with hx | hx
    · have := hr x hx; omega
    · have := h.rng x hx; omega
section
variable {ops : Array Oper} {Q : Exit → Act → World → Prop} {S : World → Prop}
variable {r : List (Nat × Bool)} {a : Act} {e : List (Nat × Value)} {w : World} {i d : Nat} {g : Option (Nat × Bool)}
theorem run_bldK {k : Int} {x y : Operand} {sa sb : Option Addr} {n m n' m' : Nat} (ho : opAt ops i = some (some d, .build 31 #[(0, .const (.int .i64 k)), (1, x), (3, y)], g)) (hd : Nat.blt d a.tmps.size = true) (hw : wantE ops a e g = some true)
    (hx : lookO a e x = .slice sa n m) (hy : lookO a e y = .slice sb n' m') (hS : S w)
    (h : RunE Try.prog ops Q S r a ((d, .agg #[.int .i64 k, .slice sa n m, .slice none 0 0, .slice sb n' m', .slice none 0 0, .slice none 0 0, .int .i64 0, .int .i64 0]) :: e) w) : RunE Try.prog ops Q S ((i, false) :: r) a e w := by
  have hc : lookO a e (.const (.int .i64 k)) = .int .i64 k := rfl
  refine run_eff ho hd hw (fun o h1 => ?_) hS h
  unfold execOp
  simp only [h1, List.map_toArray, List.map_cons, List.map_nil, hx, hy, hc]
  exact run_v build_v3
end
end Go.Proofs.Ytlnjjjoeblopeaa

/- CumulativeOf of the program. -/
namespace Go.Proofs.Ytlnjjjoeblopeaa
open Go.RowKit
set_option maxRecDepth 100000
set_option linter.unusedVariables false

set_option maxHeartbeats 2000000 in
theorem implRun (l : List It) (sa : Option Addr) (c lo hi : Nat) (w : World) (hI : ItemsAt lo hi w sa l) (hhi : hi ≤ w.heap.size) (hn : l.length ≤ 1048576) (ht : ∀ i, i < l.length → (l.getD i noI).t.size ≤ 9223372036854775807) :
    Calls Try.prog 94 #[.slice sa l.length c] w fun e w' => ∃ v, e = .returned v ∧ ItR w w' (runL l) v := by
  have AI := Lib.hid (fun (k : Nat) (w1 : World) (hk : k < l.length) (hb : Below w.heap.size w w1) => (hI.below hb hhi).at_ hk)
  have MK := Lib.hid (fun W => (by have h := implMake 0 1 W ⟨by omega, by omega⟩ ⟨by decide, by decide⟩; rw [mkI_int (by omega) (by omega)] at h; exact h : Calls Try.prog 133 #[.int .i64 0, .int .i64 1] W (fun e w' => e = .returned (.agg #[.int .i64 0, .int .i64 1, .string ⟨#[]⟩]) ∧ Below W.heap.size W w')))
  have TI := Lib.hid ht
  have E0 := Lib.hid (show sumL (l.take 0) = ⟨0, 1, ⟨#[]⟩⟩ by rw [sumL_zero]; exact mkI_int (by decide) (by decide))
  have FS := Lib.hid (fun k (hk : k < l.length) => sumL_one hk)
  have GT := Lib.hid (fun k => (good_sumL (l.take k)).t0)
  have RL := Lib.hid (show runL l = itF (fun i => sumL (l.take (i + 1))) l.length from rfl)
  obtain ⟨n, hn'⟩ : ∃ n, l.length = n := ⟨_, rfl⟩
  rw [hn'] at AI TI FS RL hn ⊢
  obtain ⟨Z, hZ⟩ : ∃ Z, runL l = Z := ⟨_, rfl⟩
  rw [hZ] at RL ⊢
  obtain ⟨f, hf⟩ : ∃ f : Nat → It, (fun k => sumL (l.take k)) = f := ⟨_, rfl⟩
  have hfk : ∀ k, sumL (l.take k) = f k := fun k => by rw [← hf]
  rw [hfk] at E0
  have FS := Lib.hid (fun k (hk : k < n) => (by rw [← hfk, ← hfk]; exact FS.out k hk : f (k + 1) = addI (f k) (l.getD k noI)))
  have GT := Lib.hid (fun k => (by rw [← hfk]; exact GT.out k : (f k).t.size ≤ 9223372036854775807))
  have RL := Lib.hid (show Z = itF (fun i => f (i + 1)) n by rw [RL.out, ← hf])
  clear hn' hI ht hZ hf hfk
  go_enter Try.func94, Try.ntmps94
  go_wp2_with fail
  with_reducible refine (MK.out _).mono ?_
  rintro e w1 ⟨rfl, b⟩
  have B1 := Lib.hid b
  clear b
  go_wp2
  obtain ⟨g, hg⟩ : ∃ g, w1.heap.size = g := ⟨_, rfl⟩
  have hwg : w.heap.size ≤ g := hg ▸ B1.out.size
  have S0 := Lib.hid (show RunR w (w1.alloc (.cells #[.int .i64 (f 0).n, .int .i64 (f 0).d, .string (f 0).t] 66)) (g + 1) g (itF (fun i => f (i + 1)) 0) (f 0) (.slice none 0 0) from ⟨⟨rfl, .inl ⟨rfl, rfl⟩⟩, B1.out.alloc B1.out.size _, blk_new w1 _ hg.symm, by simp [hg]⟩)
  rw [hg]
  clear hg
  go_loopw [3, 10] (fun v i wr => ∃ k : Nat, k ≤ n ∧ i = .int .i64 k ∧ RunR w wr (g + 1) g (itF (fun i => f (i + 1)) k) (f k) v) (fun _ i _ => n - (intOf i).toNat)
  case atStart => exact ⟨0, Nat.zero_le _, rfl, by have := S0.out; rw [E0.out] at this ⊢; exact this⟩
  case round =>
    obtain ⟨k, hk, rfl, hrr⟩ := hrel
    have RR := Lib.hid hrr
    clear hrr
    have hgr := (Array.getElem?_eq_some_iff.1 RR.out.num).1
    by_cases hlt : k < n
    · obtain ⟨ba, off, rfl, hbB, c0, c1, c2'⟩ := AI.out _ _ hlt RR.out.below
      have hbw : ba < wr.heap.size := Nat.lt_of_lt_of_le (Nat.lt_of_lt_of_le hbB hhi) RR.out.below.size
      have c2 : wr.cell? ⟨ba, off + k * 3 + 2, none⟩ = some (.string (l.getD k noI).t) := c2'
      clear c2'
      have CA := Lib.hid (fun W => implAdd (f k) (l.getD k noI) W (GT.out k) (TI.out k hlt))
      rw [← FS.out k hlt] at CA
      have NX := Lib.hid (itF_succ (fun i => f (i + 1)) k)
      have LN := Lib.hid (show (itF (fun i => f (i + 1)) k).length ≤ 1048576 by rw [itF_len]; omega)
      obtain ⟨x, hx⟩ : ∃ x, l.getD k noI = x := ⟨_, rfl⟩
      rw [hx] at c0 c1 c2 CA
      clear hx
      obtain ⟨⟨y0, y1, y2⟩, _⟩ := three RR.out.num
      go_upto_region 6 with (fail)
      obtain ⟨w5, hw5⟩ : ∃ W, wr.alloc (.cells #[.int .i64 x.n, .int .i64 x.d, .string x.t] 66) = W := ⟨_, rfl⟩
      have RR := Lib.hid (show RunR w w5 (g + 1) g (itF (fun i => f (i + 1)) k) (f k) _ from hw5 ▸ RR.out.keep (below1 wr _))
      have KX := Lib.hid (show w5.heap[wr.heap.size]? = some (.cells #[.int .i64 x.n, .int .i64 x.d, .string x.t] 66 (0, 0)) from hw5 ▸ blk_new wr _ rfl)
      rw [hw5]
      clear hw5 y0 y1 y2 c0 c1 c2
      obtain ⟨gx, hgx⟩ : ∃ g, wr.heap.size = g := ⟨_, rfl⟩
      rw [hgx] at KX hgr hbw ⊢
      clear hgx
      obtain ⟨⟨y0, y1, y2⟩, _⟩ := three RR.out.num
      obtain ⟨⟨x0, x1, x2⟩, _⟩ := three KX.out
      go_wp2_with fail
      with_reducible refine (CA.out _).mono ?_
      rintro e w6 ⟨rfl, b⟩
      have RR := Lib.hid (RR.out.keep b)
      clear b y0 y1 y2 x0 x1 x2
      obtain ⟨⟨y0, y1, y2⟩, q0, q1, q2⟩ := three RR.out.num
      go_upto_region 7 with (fail)
      obtain ⟨w7, hw7⟩ : ∃ W, ((w6.setCell ⟨g, 0, none⟩ (.int .i64 (f (k + 1)).n)).setCell ⟨g, 1, none⟩ (.int .i64 (f (k + 1)).d)).setCell ⟨g, 2, none⟩ (.string (f (k + 1)).t) = W := ⟨_, rfl⟩
      have RR := Lib.hid (show RunR w w7 (g + 1) g (itF (fun i => f (i + 1)) k) (f (k + 1)) _ from hw7 ▸ RR.out.set (z := f (k + 1)) (Nat.lt_succ_self g) hwg)
      rw [hw7]
      clear hw7 y0 y1 y2 q0 q1 q2
      obtain ⟨⟨y0, y1, y2⟩, _⟩ := three RR.out.num
      go_wp2_with (at_builtin; refine wpList_appRow rfl _ _ rfl (f (k + 1)) (itF (fun i => f (i + 1)) k) _ _ rfl rfl (RR.out.keep (below1 w7 _)).row (RR.out.keep (below1 w7 (.cells #[.int .i64 (f (k + 1)).n, .int .i64 (f (k + 1)).d, .string (f (k + 1)).t] 66))).big (blk_new w7 _ rfl) LN.out ?_)
      intro v' w8 hrow hb8
      have RN := Lib.hid (show RunR w w8 (g + 1) g (itF (fun i => f (i + 1)) (k + 1)) (f (k + 1)) v' from ⟨NX.out ▸ (show w8.ownsRow (g + 1) 66 3 v' (itF (fun i => f (i + 1)) k ++ [f (k + 1)]).length (itCells (itF (fun i => f (i + 1)) k ++ [f (k + 1)])) from by rw [List.length_append]; exact hrow), (RR.out.keep (below1 w7 _)).below.trans (hb8.mono (by omega)), (hb8.block g (Nat.lt_succ_self g)).trans (RR.out.keep (below1 w7 _)).num, Nat.le_trans (RR.out.keep (below1 w7 (.cells #[.int .i64 (f (k + 1)).n, .int .i64 (f (k + 1)).d, .string (f (k + 1)).t] 66))).big hb8.size⟩)
      clear hrow hb8 y0 y1 y2
      go_wp2
      go_roundw
      case rel => exact ⟨k + 1, by omega, by go_num, RN.out⟩
      case measure => simp [intOf]; omega
    · obtain rfl : k = n := by omega
      have IR := Lib.hid (show ItR w wr Z _ from ⟨ownsRow_base (by rw [RL.out]; exact RR.out.row) (Nat.le_succ_of_le hwg), RR.out.below⟩)
      go_wp2
      go_ret
      exact ⟨_, rfl, IR.out⟩
set_option maxHeartbeats 4000000 in
theorem implCumOf (d : Nat) (v : Vec) (val : Value) (lo hi : Nat) (w : World) (hv : VecAt lo hi w d v val) (hhi : hi ≤ w.heap.size) (hsm : Small d v) :
    Calls Try.prog 34 #[val] w (ResVS 1 (cumV v) (smyS nonNumB v) w) := by
  have C1 := Lib.hid (fun (w1 : World) (hb : Below w.heap.size w w1) => implTaken d v val false nonNumB nonNum_ne lo hi w1 (hv.below hb hhi) (Nat.le_trans hhi hb.size) hsm)
  obtain ⟨VV, hVV⟩ : ∃ V, v = V := ⟨_, rfl⟩
  rw [hVV] at C1 ⊢
  obtain ⟨kk, items, parts, names, cls, levels, code, env⟩ := v
  obtain ⟨d', ai, ci, ap, cp, an, cn, ac, cc, al, cl, ed, rfl, hI, hN, hC, hL, hP⟩ := vecAt_open hv
  have ln : names.length ≤ 1048576 := by subst ed; exact hsm.2.2.1
  have CC := Lib.hid (fun (w1 : World) (hb : Below w.heap.size w w1) => implCopyAny names an cn lo hi w1 (hN.below hb hhi) ln)
  have XN := Lib.hid (show namesV VV = names by rw [← hVV]; rfl)
  clear hv hI hN hC hL hP hsm ed hVV
  go_enter Try.func34, Try.ntmps34
  go_wp2_with fail
  obtain ⟨w1, hw1⟩ : ∃ W, (w.alloc (.cells #[.int .i64 kk, .slice ai items.length ci, .slice ap parts.length cp, .slice an names.length cn, .slice ac cls.length cc, .slice al levels.length cl, .int .i64 code, .int .i64 env] 31)).alloc (.cells #[.int .i64 0, .slice none 0 0, .slice none 0 0, .slice none 0 0, .slice none 0 0, .slice none 0 0, .int .i64 0, .int .i64 0] 31) = W := ⟨_, rfl⟩
  have hsz : (w.alloc (.cells #[.int .i64 kk, .slice ai items.length ci, .slice ap parts.length cp, .slice an names.length cn, .slice ac cls.length cc, .slice al levels.length cl, .int .i64 code, .int .i64 env] 31)).heap.size = w.heap.size + 1 := by simp
  have B1 := Lib.hid (show Below w.heap.size w w1 from hw1 ▸ (below1 w _).alloc (by simp) _)
  have KA := Lib.hid (show w1.heap[w.heap.size]? = some (.cells #[.int .i64 kk, .slice ai items.length ci, .slice ap parts.length cp, .slice an names.length cn, .slice ac cls.length cc, .slice al levels.length cl, .int .i64 code, .int .i64 env] 31 (0, 0)) from hw1 ▸ blk_old (blk_new w _ rfl))
  have KR := Lib.hid (show w1.heap[w.heap.size + 1]? = some (.cells #[.int .i64 0, .slice none 0 0, .slice none 0 0, .slice none 0 0, .slice none 0 0, .slice none 0 0, .int .i64 0, .int .i64 0] 31 (0, 0)) from hw1 ▸ hsz ▸ blk_new (w.alloc (.cells #[.int .i64 kk, .slice ai items.length ci, .slice ap parts.length cp, .slice an names.length cn, .slice ac cls.length cc, .slice al levels.length cl, .int .i64 code, .int .i64 env] 31)) (.cells #[.int .i64 0, .slice none 0 0, .slice none 0 0, .slice none 0 0, .slice none 0 0, .slice none 0 0, .int .i64 0, .int .i64 0] 31) rfl)
  rw [hw1]
  clear hw1 hsz
  refine (C1.out _ B1.out).mono ?_
  rintro e w2 ⟨sa, n, c, rfl, hln, hit, b⟩
  have B2 := Lib.hid (below_then B1.out b)
  have KR := Lib.hid (blk_below b KR.out)
  have KA := Lib.hid (blk_below b KA.out)
  clear b
  by_cases hs : smyS nonNumB VV = ⟨#[]⟩
  · have XV := Lib.hid (show cumV VV = mkN 2 (runL (smyL false VV)) names by rw [cum_val hs, XN.out])
    have XS := Lib.hid hs
    have IL := Lib.hid hit
    have hl40 := smyL_len false VV
    have CRS := Lib.hid (fun (W : World) (hb : Below w.heap.size w W) (hb2 : Below w2.heap.size w2 W) => implRun (smyL false VV) sa c 0 w2.heap.size W (IL.out.below hb2 (Nat.le_refl _)) hb2.size (by omega) (fun i _ => (smyL_at false VV i).t0))
    obtain ⟨L, hL⟩ : ∃ L, smyL false VV = L := ⟨_, rfl⟩
    rw [hL] at XV CRS hln
    rw [← hln] at CRS
    rw [hs]
    clear hs hit hL hl40 XN IL hln
    have CRS := Lib.hid (CRS.out w2.drew (below_drew' B2.out) (below_drew' (Below.refl _ _)))
    have hwr := (Array.getElem?_eq_some_iff.1 KR.out).1
    go_upto_region 4 with (fail)
    have H := Lib.hid (show HeldC w w2 ([(w.heap.size, 31, #[.int .i64 kk, .slice ai items.length ci, .slice ap parts.length cp, .slice an names.length cn, .slice ac cls.length cc, .slice al levels.length cl, .int .i64 code, .int .i64 env])]) from heldC_cons ⟨B2.out, (fun _ h => by cases h)⟩ KA.out)
    refine run_region (ops := (opsOf Try.f34 4)) (S := fun w' => HeldC w w' ([(w.heap.size, 31, #[.int .i64 kk, .slice ai items.length ci, .slice ap parts.length cp, .slice an names.length cn, .slice ac cls.length cc, .slice al levels.length cl, .int .i64 code, .int .i64 env])])) [(0, true), (2, true), (3, true), (1, false), (4, false), (5, false), (6, false), (7, true)] (by kernel_rfl) (by kernel_rfl) (by kernel_rfl) (by kernel_rfl) (by kernel_rfl) (fun _ _ _ _ _ h => h) (heldC_drew H.out) ?_
    have H := Lib.hid (heldC_drew H.out)
    have KR := Lib.hid (blk_below (below_drew' (Below.refl _ _)) KR.out)
    refine run_mov (v := .slice sa n c) (show opAt (opsOf Try.f34 4) 0 = some (some 15, .move (.tmp 4), none) from by kernel_rfl) (by kernel_rfl) (by kernel_rfl) (by kernel_rfl) ?_
    refine runC_partV (b := w.heap.size) (by kernel_rfl) (show opAt (opsOf Try.f34 4) 2 = some (some 17, .fieldAddr 31 (.tmp 1) 3, none) from by kernel_rfl) (by kernel_rfl) (by kernel_rfl) (by kernel_rfl) ?_
    refine runC_cell (b := w.heap.size) (j := 3) (v := .slice an names.length cn) load_strs (show opAt (opsOf Try.f34 4) 3 = some (some 18, .load 24 (.tmp 17), none) from by kernel_rfl) (by kernel_rfl) (by kernel_rfl) (by kernel_rfl) (List.Mem.head _) rfl ?_
    refine run_call (args := [.slice sa n c]) (show opAt (opsOf Try.f34 4) 1 = some (some 16, .call { callee := .value (.func 94), args := [(.tmp 15)].toArray, argTypes := [28].toArray }, none) from by kernel_rfl) (by kernel_rfl) (by kernel_rfl) (by kernel_rfl) (by kernel_rfl) ?_
    refine (CRS.out).mono ?_
    rintro en rw1 ⟨vi, rfl, hir⟩
    obtain ⟨si, ci2, Fi, rfl, hoi, hni, hri, hci⟩ := own_of_its hir.row
    obtain ⟨ni, hni'⟩ : ∃ n, (runL L).length = n := ⟨_, rfl⟩
    have EN := Lib.hid hni'
    rw [hni'] at hci ⊢
    clear hni'
    have OI := Lib.hid hoi
    have NI := Lib.hid hni
    have RI := Lib.hid hri
    have CI2 := Lib.hid hci
    have SB := Lib.hid hir.below.size
    refine ⟨_, rfl, heldC_call H.out hir.below, ?_⟩
    have KR := Lib.hid (blk_below hir.below KR.out)
    have H := Lib.hid (heldC_call H.out hir.below)
    clear hir hoi hni hri hci
    refine run_call (args := [.slice an names.length cn]) (show opAt (opsOf Try.f34 4) 4 = some (some 19, .call { callee := .value (.func 74), args := [(.tmp 18)].toArray, argTypes := [24].toArray }, none) from by kernel_rfl) (by kernel_rfl) (by kernel_rfl) (by kernel_rfl) (by kernel_rfl) ?_
    refine (CC.out _ H.out.1).mono ?_
    rintro en rw2 ⟨v, rfl, ⟨sn, nc, Fn, rfl, hT, hnd, hr, hcap⟩, hb⟩
    refine ⟨_, rfl, heldC_call H.out hb, ?_⟩
    have BN := Lib.hid hb
    have KR := Lib.hid (blk_below hb KR.out)
    have H := Lib.hid (heldC_call H.out hb)
    have HT := Lib.hid hT
    have HN := Lib.hid hnd
    have HR := Lib.hid hr
    have HC := Lib.hid hcap
    clear hb hT hnd hr hcap
    refine run_bldK (k := 2) (sa := si) (n := ni) (m := ci2) (sb := sn) (n' := names.length) (m' := nc) (show opAt (opsOf Try.f34 4) 5 = some (some 20, .build 31 #[(0, .const (.int .i64 2)), (1, .tmp 16), (3, .tmp 19)], none) from by kernel_rfl) (by kernel_rfl) (by kernel_rfl) (by kernel_rfl) (by kernel_rfl) H.out ?_
    refine run_store (w' := rw2.setRow (w.heap.size + 1) #[.int .i64 2, .slice si ni ci2, .slice none 0 0, .slice sn names.length nc, .slice none 0 0, .slice none 0 0, .int .i64 0, .int .i64 0]) (show opAt (opsOf Try.f34 4) 6 = some (none, .store 31 (.tmp 2) (.tmp 20), none) from by kernel_rfl) (by kernel_rfl) (by kernel_rfl) (by kernel_rfl) (store_vec8 KR.out (by simp [Value.oneCell'])) ⟨below_row H.out.1 (Nat.le_succ _) _, fun q hq => row_old (H.out.2 q hq) (by obtain rfl := List.mem_singleton.1 hq; simp only; omega)⟩ ?_
    refine run_asg (v := .string ⟨#[]⟩) (show opAt (opsOf Try.f34 4) 7 = some (some 3, .assign (.const (.string ⟨#[]⟩)), none) from by kernel_rfl) (by kernel_rfl) (by kernel_rfl) (by kernel_rfl) ?_
    refine run_done ?_
    simp only [putAll, Act.put, List.setIfInBounds_toArray, List.set_cons_zero, List.set_cons_succ]
    have FIN := Lib.hid (own_pair (k := 2) (OI.out.kept (fun b hb => BN.out.block b (RI.out b hb).2)) NI.out (fun b hb => RI.out b hb) (by rw [EN.out]; exact CI2.out) HT.out HN.out HR.out HC.out SB.out BN.out.size)
    rw [EN.out] at FIN
    go_wp2
    rw [XV.out, XS.out]
    exact vec_ret0S rfl rfl rfl rfl (row_set KR.out) ⟨_, rfl, (FIN.out.row (show w.heap.size + 1 < w2.heap.size from hwr)).wide (show w.heap.size ≤ w2.heap.size by omega) (row_size _ _ _), below_row H.out.1 (Nat.le_succ _) _⟩
  · have XV := Lib.hid (cum_not hs)
    obtain ⟨R, hR⟩ : ∃ R, smyS nonNumB VV = R := ⟨_, rfl⟩
    have XS := Lib.hid hR
    rw [hR] at hs ⊢
    have hRb : (R.toList == []) = false := by have h := str_not hs; rw [ByteArray.toList_eq ⟨#[]⟩] at h; exact h
    clear hs hR
    obtain ⟨z0, z1, z2, z3, z4, z5, z6, z7⟩ := vec8 KR.out
    obtain ⟨f0, f1, f2, f3, f4, f5, f6, f7⟩ := free8 KR.out
    go_wp2
    rw [XV.out, XS.out]
    exact vec_endS rfl rfl rfl rfl KR.out (zeroS _ w _ (put8_below B2.out (Nat.le_succ _)))
end Go.Proofs.Ytlnjjjoeblopeaa

/- CumulativeOf of the reference. -/
namespace Go.Proofs.Ytlnjjjoeblopeaa
open Go.RowKit
set_option maxRecDepth 100000
set_option linter.unusedVariables false

set_option maxHeartbeats 4000000 in
theorem specCumOf (d : Nat) (v : Vec) (val : Value) (lo hi : Nat) (w : World) (hv : VecAt lo hi w d v val) (hhi : hi ≤ w.heap.size) (hsm : Small d v) :
    Calls Try.prog 33 #[val] w (ResVS 1 (cumV v) (smyS nonNumB v) w) := by
  have C1 := Lib.hid (fun (w1 : World) (hb : Below w.heap.size w w1) => specTake d v val false lo hi w1 (hv.below hb hhi) (Nat.le_trans hhi hb.size) hsm)
  obtain ⟨VV, hVV⟩ : ∃ V, v = V := ⟨_, rfl⟩
  rw [hVV] at C1 ⊢
  obtain ⟨kk, items, parts, names, cls, levels, code, env⟩ := v
  obtain ⟨d', ai, ci, ap, cp, an, cn, ac, cc, al, cl, ed, rfl, hI, hN, hC, hL, hP⟩ := vecAt_open hv
  have ln : names.length ≤ 1048576 := by subst ed; exact hsm.2.2.1
  have HT := Lib.hid (fun (w1 : World) (hb : Below w.heap.size w w1) => hN.below hb hhi)
  have XN := Lib.hid (show namesV VV = names by rw [← hVV]; rfl)
  clear hv hI hN hC hL hP hsm ed hVV
  go_enter Try.func33, Try.ntmps33
  go_wp2_with fail
  obtain ⟨w1, hw1⟩ : ∃ W, (w.alloc (.cells #[.int .i64 kk, .slice ai items.length ci, .slice ap parts.length cp, .slice an names.length cn, .slice ac cls.length cc, .slice al levels.length cl, .int .i64 code, .int .i64 env] 31)).alloc (.cells #[.int .i64 0, .slice none 0 0, .slice none 0 0, .slice none 0 0, .slice none 0 0, .slice none 0 0, .int .i64 0, .int .i64 0] 31) = W := ⟨_, rfl⟩
  have hsz : (w.alloc (.cells #[.int .i64 kk, .slice ai items.length ci, .slice ap parts.length cp, .slice an names.length cn, .slice ac cls.length cc, .slice al levels.length cl, .int .i64 code, .int .i64 env] 31)).heap.size = w.heap.size + 1 := by simp
  have B1 := Lib.hid (show Below w.heap.size w w1 from hw1 ▸ (below1 w _).alloc (by simp) _)
  have KA := Lib.hid (show w1.heap[w.heap.size]? = some (.cells #[.int .i64 kk, .slice ai items.length ci, .slice ap parts.length cp, .slice an names.length cn, .slice ac cls.length cc, .slice al levels.length cl, .int .i64 code, .int .i64 env] 31 (0, 0)) from hw1 ▸ blk_old (blk_new w _ rfl))
  have KR := Lib.hid (show w1.heap[w.heap.size + 1]? = some (.cells #[.int .i64 0, .slice none 0 0, .slice none 0 0, .slice none 0 0, .slice none 0 0, .slice none 0 0, .int .i64 0, .int .i64 0] 31 (0, 0)) from hw1 ▸ hsz ▸ blk_new (w.alloc (.cells #[.int .i64 kk, .slice ai items.length ci, .slice ap parts.length cp, .slice an names.length cn, .slice ac cls.length cc, .slice al levels.length cl, .int .i64 code, .int .i64 env] 31)) (.cells #[.int .i64 0, .slice none 0 0, .slice none 0 0, .slice none 0 0, .slice none 0 0, .slice none 0 0, .int .i64 0, .int .i64 0] 31) rfl)
  rw [hw1]
  clear hw1 hsz
  with_reducible refine (C1.out _ B1.out).mono ?_
  rintro e w2 ⟨sv, rfl, hir⟩
  obtain ⟨sL, c, rfl, hit⟩ := hir.items
  have B2 := Lib.hid (below_then B1.out hir.below)
  have KR := Lib.hid (blk_below hir.below KR.out)
  have KA := Lib.hid (blk_below hir.below KA.out)
  clear hir
  by_cases hs : smyS nonNumB VV = ⟨#[]⟩
  · have XV := Lib.hid (show cumV VV = mkN 2 (runL (smyL false VV)) names by rw [cum_val hs, XN.out])
    have XS := Lib.hid hs
    have AI := Lib.hid (fun (k : Nat) (hk : k < (smyL false VV).length) => hit.at_ hk)
    have hl40 := smyL_len false VV
    have TX := Lib.hid (fun i => (smyL_at false VV i).t0)
    have E0 := Lib.hid (show sumL ((smyL false VV).take 0) = ⟨0, 1, ⟨#[]⟩⟩ by rw [sumL_zero]; exact mkI_int (by decide) (by decide))
    have FS := Lib.hid (fun k (hk : k < (smyL false VV).length) => sumL_one hk)
    have GT := Lib.hid (fun k => (good_sumL ((smyL false VV).take k)).t0)
    have RL := Lib.hid (show runL (smyL false VV) = itF (fun i => sumL ((smyL false VV).take (i + 1))) (smyL false VV).length from rfl)
    rw [hs]
    obtain ⟨L, hL⟩ : ∃ L, smyL false VV = L := ⟨_, rfl⟩
    rw [hL] at XV AI hl40 TX E0 FS GT RL ⊢
    clear hs hit hL XN
    obtain ⟨n, hn⟩ : ∃ n, L.length = n := ⟨_, rfl⟩
    rw [hn] at AI hl40 FS RL ⊢
    obtain ⟨f, hf⟩ : ∃ f : Nat → It, (fun k => sumL (L.take k)) = f := ⟨_, rfl⟩
    have hfk : ∀ k, sumL (L.take k) = f k := fun k => by rw [← hf]
    rw [hfk] at E0
    have FS := Lib.hid (fun k (hk : k < n) => (by rw [← hfk, ← hfk]; exact FS.out k hk : f (k + 1) = addI (f k) (L.getD k noI)))
    have GT := Lib.hid (fun k => (by rw [← hfk]; exact GT.out k : (f k).t.size ≤ 9223372036854775807))
    have RL := Lib.hid (show runL L = itF (fun i => f (i + 1)) n by rw [RL.out, ← hf])
    rw [RL.out] at XV
    clear hn hf hfk RL
    obtain ⟨k0, k1, k2, k3, k4, k5, k6, k7⟩ := vec8 KA.out
    have hkw := (Array.getElem?_eq_some_iff.1 KA.out).1
    obtain ⟨w3, hw3⟩ : ∃ W, w2.alloc (.cells #[] 9) = W := ⟨_, rfl⟩
    have b3 : Below w2.heap.size w2 w3 := hw3 ▸ below1 w2 _
    have KS := Lib.hid (show w3.heap[w2.heap.size]? = some (.cells #[] 9 (0, 0)) from hw3 ▸ blk_new w2 _ rfl)
    have B3 := Lib.hid b3
    have B3w := Lib.hid (below_then B2.out b3)
    have KR3 := Lib.hid (blk_below b3 KR.out)
    have EW := Lib.hid hw3
    clear hw3 b3
    go_wp2_with (at_builtin; rw [EW.out]; refine wpList_copyTexts rfl _ _ rfl w2.heap.size _ rfl (.inr ⟨w2.heap.size, Nat.le_refl _, rfl, KS.out⟩) an cn names lo hi rfl (HT.out _ B3w.out) ln B3.out.size ?_)
    intro v' w4 hcp hb4
    obtain ⟨na, nc, Fn, rfl, hT, hnd, hrg, hcap⟩ := hcp
    have B4 := Lib.hid (B3.out.trans hb4)
    have T4 := Lib.hid hT
    have N4 := Lib.hid hnd
    have R4 := Lib.hid hrg
    have C4 := Lib.hid hcap
    clear hb4 hT hnd hrg hcap k0 k1 k2 k3 k4 k5 k6 k7
    go_wp2_with fail
    obtain ⟨w5, hw5⟩ : ∃ W, w4.alloc (.cells #[.int .i64 2, .slice none 0 0, .slice none 0 0, .slice na names.length nc, .slice none 0 0, .slice none 0 0, .int .i64 0, .int .i64 0] 31) = W := ⟨_, rfl⟩
    have B5 := Lib.hid (show Below w2.heap.size w2 w5 from hw5 ▸ B4.out.alloc B4.out.size _)
    have KV := Lib.hid (show w5.heap[w4.heap.size]? = some (.cells #[.int .i64 2, .slice none 0 0, .slice none 0 0, .slice na names.length nc, .slice none 0 0, .slice none 0 0, .int .i64 0, .int .i64 0] 31 (0, 0)) from hw5 ▸ blk_new w4 _ rfl)
    have T5 := Lib.hid (show OwnTxs w5 na names Fn from hw5 ▸ T4.out.kept (fun x hx => (below1 w4 _).block x (R4.out x hx).2))
    rw [hw5]
    clear hw5
    obtain ⟨b6, hb6⟩ : ∃ b, w4.heap.size = b := ⟨_, rfl⟩
    have H6 := Lib.hid (show w2.heap.size ≤ b6 from hb6 ▸ B4.out.size)
    have R5 := Lib.hid (show ∀ x ∈ Fn, w2.heap.size ≤ x ∧ x < b6 from hb6 ▸ R4.out)
    rw [hb6] at KV ⊢
    clear hb6 R4 T4
    with_reducible refine (specNum2 0 _).mono ?_
    rintro e w6 ⟨rfl, b⟩
    have B6' := Lib.hid (below_then B5.out b)
    have T6 := Lib.hid (T5.out.kept (fun x hx => b.block x (Nat.lt_trans (R5.out x hx).2 (Array.getElem?_eq_some_iff.1 KV.out).1)))
    have KV := Lib.hid (blk_below b KV.out)
    clear b
    go_wp2
    obtain ⟨g, hg⟩ : ∃ g, w6.heap.size = g := ⟨_, rfl⟩
    have H6g := Lib.hid (show b6 < g from hg ▸ (Array.getElem?_eq_some_iff.1 KV.out).1)
    have S0 := Lib.hid (show CumR w2 (w6.alloc (.cells #[.int .i64 (f 0).n, .int .i64 (f 0).d, .string (f 0).t] 66)) b6 g (itF (fun i => f (i + 1)) 0) (f 0) none 0 0 names na nc Fn from
      ⟨blk_old KV.out, blk_new w6 _ hg.symm, ⟨rfl, .inl ⟨rfl, rfl⟩⟩, T6.out.kept (fun x hx => (below1 w6 _).block x (by have := R5.out x hx; have := H6g.out; omega)), C4.out, N4.out, R5.out, B6'.out.alloc B6'.out.size _, H6.out, H6g.out⟩)
    rw [E0.out] at S0
    rw [hg]
    clear hg
    go_loopw [8] (fun i wr => ∃ (k : Nat) (sa : Option Addr) (sn sc : Nat), k ≤ n ∧ i = .int .i64 k ∧ CumR w2 wr b6 g (itF (fun i => f (i + 1)) k) (f k) sa sn sc names na nc Fn) (fun i _ => n - (intOf i).toNat)
    case atStart => exact ⟨0, none, 0, 0, Nat.zero_le _, rfl, by rw [E0.out]; exact S0.out⟩
    case round =>
      obtain ⟨k, sa, sn, sc, hk, rfl, hcr⟩ := hrel
      have CR := Lib.hid hcr
      clear hcr
      by_cases hlt : k < n
      · obtain ⟨ba, off, rfl, hbw, c0, c1, c2⟩ := AI.out _ hlt
        have CX2 := Lib.hid (show w2.cell? ⟨ba, off + k * 3 + 2, none⟩ = some (.string (L.getD k noI).t) from c2)
        have CX0 := Lib.hid c0
        have CX1 := Lib.hid c1
        have CO := Lib.hid (fun W => specAdd (f k) (L.getD k noI) W (GT.out k) (TX.out k))
        rw [← FS.out k hlt] at CO
        have NX := Lib.hid (itF_succ (fun i => f (i + 1)) k)
        have LN := Lib.hid (show (itF (fun i => f (i + 1)) k).length ≤ 1048576 by rw [itF_len]; omega)
        obtain ⟨x, hx⟩ : ∃ x, L.getD k noI = x := ⟨_, rfl⟩
        rw [hx] at CX0 CX1 CX2 CO
        clear hx c0 c1 c2
        go_upto_region 9 with (fail)
        have H := Lib.hid (show HeldC w2 wr ([(g, 66, #[.int .i64 (f k).n, .int .i64 (f k).d, .string (f k).t])]) from heldC_cons ⟨CR.out.below, (fun _ h => by cases h)⟩ CR.out.num)
        refine run_region (ops := (opsOf Try.f33 9)) (S := fun w' => HeldC w2 w' ([(g, 66, #[.int .i64 ((f k).n), .int .i64 ((f k).d), .string (f k).t])])) [(0, true), (1, true), (2, true), (3, true), (4, true), (5, false), (6, false)] (by kernel_rfl) (by kernel_rfl) (by kernel_rfl) (by kernel_rfl) (by kernel_rfl) (fun _ _ _ _ _ h => h) (heldC_drew H.out) ?_
        have H := Lib.hid (heldC_drew H.out)
        have CR := Lib.hid (CR.out.keep (below_drew' (Below.refl _ _)))
        refine runC_itm (b := g) (show opAt (opsOf Try.f33 9) 0 = some (some 30, .load 66 (.tmp 7), none) from by kernel_rfl) (by kernel_rfl) (by kernel_rfl) (by kernel_rfl) (List.Mem.head _) ?_
        refine run_mov (v := .slice (some ⟨ba, off, none⟩) n c) (show opAt (opsOf Try.f33 9) 1 = some (some 31, .move (.tmp 4), none) from by kernel_rfl) (by kernel_rfl) (by kernel_rfl) (by kernel_rfl) ?_
        refine run_mov (v := .int .i64 ((k : Int))) (show opAt (opsOf Try.f33 9) 2 = some (some 32, .move (.tmp 8), none) from by kernel_rfl) (by kernel_rfl) (by kernel_rfl) (by kernel_rfl) ?_
        refine run_idx3 (n := n) (c := c) (b := ba) (off := off) (k := k) (show opAt (opsOf Try.f33 9) 3 = some (some 33, .indexAddr 28 (.tmp 31) (.tmp 32), none) from by kernel_rfl) (by kernel_rfl) (by kernel_rfl) (by kernel_rfl) (by kernel_rfl) hlt ?_
        refine runC_oldI (b := ba) (j := off + k * 3) (z := x) (show opAt (opsOf Try.f33 9) 4 = some (some 34, .load 66 (.tmp 33), none) from by kernel_rfl) (by kernel_rfl) (by kernel_rfl) (by kernel_rfl) hbw CX0.out CX1.out CX2.out ?_
        refine run_call (args := [.agg #[.int .i64 ((f k).n), .int .i64 ((f k).d), .string (f k).t], .agg #[.int .i64 x.n, .int .i64 x.d, .string x.t]]) (show opAt (opsOf Try.f33 9) 5 = some (some 35, .call { callee := .value (.func 91), args := [(.tmp 30), (.tmp 34)].toArray, argTypes := [66, 66].toArray }, none) from by kernel_rfl) (by kernel_rfl) (by kernel_rfl) (by kernel_rfl) (by kernel_rfl) ?_
        refine (CO.out _).mono ?_
        rintro en rw1 ⟨rfl, hb⟩
        refine ⟨_, rfl, heldC_call H.out hb, ?_⟩
        have H := Lib.hid (heldC_call H.out hb)
        have CR := Lib.hid (CR.out.keep hb)
        clear hb
        refine run_last (by kernel_rfl) (show opAt (opsOf Try.f33 9) 6 = some (none, .store 66 (.tmp 7) (.tmp 35), none) from by kernel_rfl) (by kernel_rfl) (by kernel_rfl) (by kernel_rfl) (store_item (u := .int .i64 (f (k + 1)).n) (v := .int .i64 (f (k + 1)).d) (q := .string (f (k + 1)).t) (heldC_at H.out (List.Mem.head _)) rfl rfl rfl) ?_
        refine run_done ?_
        simp only [putAll, Act.put, List.setIfInBounds_toArray, List.set_cons_zero, List.set_cons_succ]
        have CR := Lib.hid (CR.out.put (z := f (k + 1)))
        have W0 := Lib.hid (show w2.heap.size ≤ g + 1 by have := CR.out.o1; have := CR.out.o2; omega)
        have B6 := Lib.hid (show b6 < g + 1 by have := CR.out.o2; omega)
        have H := Lib.hid (show HeldC w2 _ ([(g, 66, #[.int .i64 ((f (k + 1)).n), .int .i64 ((f (k + 1)).d), .string (f (k + 1)).t]), (b6, 31, #[.int .i64 2, .slice sa sn sc, .slice none 0 0, .slice na names.length nc, .slice none 0 0, .slice none 0 0, .int .i64 0, .int .i64 0])]) from heldC_cons (heldC_cons ⟨CR.out.below, (fun _ h => by cases h)⟩ CR.out.vec) CR.out.num)
        have FAR := Lib.hid (show ∀ q ∈ ([(g, 66, #[.int .i64 ((f (k + 1)).n), .int .i64 ((f (k + 1)).d), .string (f (k + 1)).t]), (b6, 31, #[.int .i64 2, .slice sa sn sc, .slice none 0 0, .slice na names.length nc, .slice none 0 0, .slice none 0 0, .int .i64 0, .int .i64 0])] : List (Nat × TypeId × Array Value)), ∀ j, (Value.slice sa sn sc).ownBlock = some j → q.1 ≠ j from fun q hq j hj => by
          have h1 := (CR.out.row.lt j hj).1
          have h2 := CR.out.o2
          rcases List.mem_cons.1 hq with rfl | hq
          · simp only; omega
          · obtain rfl := List.mem_singleton.1 hq
            simp only; omega)
        go_upto_region 10 with (fail)
        refine run_region_seq (ops := (opsOf Try.f33 10)) (S := fun w' => HeldC w2 w' ([(g, 66, #[.int .i64 ((f (k + 1)).n), .int .i64 ((f (k + 1)).d), .string (f (k + 1)).t]), (b6, 31, #[.int .i64 2, .slice sa sn sc, .slice none 0 0, .slice na names.length nc, .slice none 0 0, .slice none 0 0, .int .i64 0, .int .i64 0])])) [(0, true), (1, true), (2, true), (3, false), (4, false), (5, true), (6, false)] (by kernel_rfl) (by kernel_rfl) (by kernel_rfl) H.out ?_
        refine runC_partV (b := b6) (by kernel_rfl) (show opAt (opsOf Try.f33 10) 0 = some (some 36, .fieldAddr 31 (.tmp 6) 1, none) from by kernel_rfl) (by kernel_rfl) (by kernel_rfl) (by kernel_rfl) ?_
        refine runC_cell (b := b6) (j := 1) (v := .slice sa sn sc) load_its (show opAt (opsOf Try.f33 10) 1 = some (some 37, .load 28 (.tmp 36), none) from by kernel_rfl) (by kernel_rfl) (by kernel_rfl) (by kernel_rfl) (List.Mem.tail _ (List.Mem.head _)) rfl ?_
        refine runC_itm (b := g) (show opAt (opsOf Try.f33 10) 2 = some (some 38, .load 66 (.tmp 7), none) from by kernel_rfl) (by kernel_rfl) (by kernel_rfl) (by kernel_rfl) (List.Mem.head _) ?_
        refine tail_item2 (f (k + 1)) (show opAt (opsOf Try.f33 10) 3 = some (some 39, .buildSlice 28 1 #[(0, (.tmp 38))], none) from by kernel_rfl) (by kernel_rfl) (by kernel_rfl) (show opAt (opsOf Try.f33 10) 4 = some (some 40, .call { callee := .builtin .append, args := [(.tmp 37), (.tmp 39)].toArray, argTypes := [28, 28].toArray }, none) from by kernel_rfl) (by kernel_rfl) (fun _ => by kernel_rfl) (show opAt (opsOf Try.f33 10) 5 = some (some 41, .fieldAddr 31 (.tmp 6) 1, none) from by kernel_rfl) (by kernel_rfl) (by kernel_rfl) (fun _ _ => by kernel_rfl) (show opAt (opsOf Try.f33 10) 6 = some (none, .store 28 (.tmp 41) (.tmp 40), none) from by kernel_rfl) (by kernel_rfl) (by kernel_rfl) H.out CR.out.row LN.out (Nat.succ_le_of_lt CR.out.big) W0.out (List.Mem.tail _ (List.Mem.head _)) rfl B6.out CR.out.o1 (fun q hq => FAR.out q hq) ?_
        rintro v' W8 ⟨sa, sn, sc, rfl⟩ hK hO hB hZ hR hG
        simp only [putAll, Act.put, List.setIfInBounds_toArray, List.set_cons_zero, List.set_cons_succ]
        have CN := Lib.hid (CR.out.next (z := f (k + 1)) hK hO hB ((hG g CR.out.big (by have := CR.out.o2; omega) (fun j hj => by have := (CR.out.row.lt j hj).1; omega)).trans CR.out.num) (fun x hx => hG x (by have := CR.out.rng x hx; have := CR.out.o2; have := CR.out.big; omega) (by have := CR.out.rng x hx; omega) (fun j hj => by have := (CR.out.row.lt j hj).1; have := CR.out.rng x hx; have := CR.out.o2; omega)))
        clear hK hO hB hR hG H FAR LN
        go_wp2
        go_roundw
        case rel => exact ⟨k + 1, sa, sn, sc, by omega, by go_num, NX.out ▸ CN.out⟩
        case measure => simp [intOf]; omega
      · obtain rfl : k = n := by omega
        have KR2 := Lib.hid (blk_below CR.out.below KR.out)
        have BW := Lib.hid (below_then B2.out CR.out.below)
        have OW := Lib.hid CR.out.own
        have hr2 := (Array.getElem?_eq_some_iff.1 KR.out).1
        obtain ⟨k0, k1, k2, k3, k4, k5, k6, k7⟩ := vec8 CR.out.vec
        obtain ⟨z0, z1, z2, z3, z4, z5, z6, z7⟩ := vec8 KR2.out
        obtain ⟨f0, f1, f2, f3, f4, f5, f6, f7⟩ := free8 KR2.out
        go_wp2
        rw [XV.out, XS.out]
        exact vec_endS rfl rfl rfl rfl KR2.out ⟨_, rfl, (OW.out.put8 hr2 _ _ _ _ _ _ _ _).wide B2.out.size (by rw [put8_size]; exact Nat.le_refl _), put8_below BW.out (Nat.le_succ _)⟩
  · have XV := Lib.hid (cum_not hs)
    obtain ⟨R, hR⟩ : ∃ R, smyS nonNumB VV = R := ⟨_, rfl⟩
    have XS := Lib.hid hR
    rw [hR] at hs ⊢
    have hRb : (R.toList == []) = false := by have h := str_not hs; rw [ByteArray.toList_eq ⟨#[]⟩] at h; exact h
    clear hs hR
    obtain ⟨z0, z1, z2, z3, z4, z5, z6, z7⟩ := vec8 KR.out
    obtain ⟨f0, f1, f2, f3, f4, f5, f6, f7⟩ := free8 KR.out
    go_wp2
    rw [XV.out, XS.out]
    exact vec_endS rfl rfl rfl rfl KR.out (zeroS _ w _ (put8_below B2.out (Nat.le_succ _)))
end Go.Proofs.Ytlnjjjoeblopeaa

/- AllLogical and AnyLogical: the program's and the reference's. -/
namespace Go.Proofs.Ytlnjjjoeblopeaa
set_option maxRecDepth 100000
open Go.RowKit
set_option linter.unusedVariables false

def allF (f : Nat → Int) : Nat → Int
  | 0 => 1
  | n + 1 => aL (allF f n) (f n)
def anyF (f : Nat → Int) : Nat → Int
  | 0 => 0
  | n + 1 => oL (anyF f n) (f n)
theorem allF_three (f : Nat → Int) (n : Nat) : L3 (allF f n) := by
  cases n with
  | zero => exact Or.inr (Or.inl rfl)
  | succ n => exact aL_three _ _
theorem anyF_three (f : Nat → Int) (n : Nat) : L3 (anyF f n) := by
  cases n with
  | zero => exact Or.inl rfl
  | succ n => exact oL_three _ _
theorem anyF_not (f : Nat → Int) (n : Nat) : anyF (fun i => nL (f i)) n = nL (allF f n) := by
  induction n with
  | zero => rfl
  | succ n ih => show oL (anyF (fun i => nL (f i)) n) (nL (f n)) = nL (aL (allF f n) (f n)); rw [ih, nL_oL]
theorem anyF_congr {f g : Nat → Int} {n : Nat} (h : ∀ i, i < n → f i = g i) : anyF f n = anyF g n := by
  induction n with
  | zero => rfl
  | succ n ih => show oL (anyF f n) (f n) = oL (anyF g n) (g n); rw [ih (fun i hi => h i (by omega)), h n (by omega)]
theorem val_l {a b : Int} (h : a = b) : Value.int .i64 a = .int .i64 b := by rw [h]

set_option maxHeartbeats 1000000 in
theorem specAll (a : Option Addr) (n cap : Nat) (f : Nat → Int) (B : Nat) (w : World) (hs : IntsAt B w a n f) (hn : n ≤ 9223372036854775807) :
    Calls Try.prog 96 #[.slice a n cap] w fun e w' => e = .returned (.int .i64 (allF f n)) ∧ w = w' := by
  have S := Lib.hid hs
  clear hs
  go_enter Try.func96, Try.ntmps96
  go_wp2
  go_loop [3, 4] (fun v i => ∃ k : Nat, k ≤ n ∧ v = .int .i64 (allF f k) ∧ i = .int .i64 k) (fun _ i => n - (intOf i).toNat)
  case atStart => exact ⟨0, Nat.zero_le _, rfl, rfl⟩
  case round =>
    obtain ⟨k, hk, rfl, rfl⟩ := hrel
    by_cases hlt : k < n
    · obtain ⟨b, off, rfl, hb, hc⟩ := S.out k hlt
      have hlt' : (k : Int) < (n : Int) := by omega
      have A := Lib.hid (specAndL (allF f k) (f k) w)
      rw [show aL (allF f k) (f k) = allF f (k + 1) from rfl] at A
      obtain ⟨x, hx⟩ : ∃ x, f k = x := ⟨_, rfl⟩
      rw [hx] at A hc
      clear hx
      go_wp2_with fail
      refine A.out.mono ?_
      rintro e w' ⟨rfl, rfl⟩
      go_wp2
      go_round
      case rel => exact ⟨k + 1, by omega, rfl, by go_num⟩
      case measure => simp [intOf]; omega
    · obtain rfl : k = n := by omega
      go_wp2
      go_ret
      exact ⟨rfl, rfl⟩

set_option maxHeartbeats 1000000 in
theorem specAny (a : Option Addr) (n cap : Nat) (f : Nat → Int) (B : Nat) (w : World) (hs : IntsAt B w a n f) (hn : n ≤ 9223372036854775807) :
    Calls Try.prog 95 #[.slice a n cap] w fun e w' => e = .returned (.int .i64 (anyF f n)) ∧ w = w' := by
  have S := Lib.hid hs
  clear hs
  go_enter Try.func95, Try.ntmps95
  go_wp2
  go_loop [3, 4] (fun v i => ∃ k : Nat, k ≤ n ∧ v = .int .i64 (anyF f k) ∧ i = .int .i64 k) (fun _ i => n - (intOf i).toNat)
  case atStart => exact ⟨0, Nat.zero_le _, rfl, rfl⟩
  case round =>
    obtain ⟨k, hk, rfl, rfl⟩ := hrel
    by_cases hlt : k < n
    · obtain ⟨b, off, rfl, hb, hc⟩ := S.out k hlt
      have hlt' : (k : Int) < (n : Int) := by omega
      have A := Lib.hid (specOrL (anyF f k) (f k) w)
      rw [show oL (anyF f k) (f k) = anyF f (k + 1) from rfl] at A
      obtain ⟨x, hx⟩ : ∃ x, f k = x := ⟨_, rfl⟩
      rw [hx] at A hc
      clear hx
      go_wp2_with fail
      refine A.out.mono ?_
      rintro e w' ⟨rfl, rfl⟩
      go_wp2
      go_round
      case rel => exact ⟨k + 1, by omega, rfl, by go_num⟩
      case measure => simp [intOf]; omega
    · obtain rfl : k = n := by omega
      go_wp2
      go_ret
      exact ⟨rfl, rfl⟩
end Go.Proofs.Ytlnjjjoeblopeaa

/- AllOf as data; answers of one item of any kind. -/
namespace Go.Proofs.Ytlnjjjoeblopeaa
open Go.RowKit
set_option maxRecDepth 100000
set_option linter.unusedVariables false

/-- The truth of the elements. -/
def tF (l : List It) (i : Nat) : Int := truthI (l.getD i noI)
/-- All of them, or any one. -/
def allG (some : Bool) (l : List It) : Int := match some with | true => anyF (tF l) l.length | false => allF (tF l) l.length
theorem allG_three (some : Bool) (l : List It) : L3 (allG some l) := by cases some; exact allF_three _ _; exact anyF_three _ _
def cnL (some : Bool) (r : Int) (x : It) : Int := match some with | true => oL r (truthI x) | false => aL r (truthI x)
def stL (some : Bool) : Int := match some with | true => 0 | false => 1
theorem cnL_three (some : Bool) (r : Int) (x : It) : L3 (cnL some r x) := by cases some; exact aL_three _ _; exact oL_three _ _
theorem stL_three (some : Bool) : L3 (stL some) := by cases some <;> unfold stL L3 <;> simp
theorem foldG (some : Bool) (l : List It) : ∀ k, k ≤ l.length → (l.take k).foldl (cnL some) (stL some) = match some with | true => anyF (tF l) k | false => allF (tF l) k
  | 0, _ => by rw [fold_zero]; cases some <;> rfl
  | k + 1, h => by
    rw [fold_one (cnL some) (stL some) (show k < l.length by omega), foldG some l k (by omega)]
    cases some <;> rfl
theorem fold_allG (some : Bool) (l : List It) : l.foldl (cnL some) (stL some) = allG some l := by
  rw [← fold_full, foldG some l l.length (Nat.le_refl _)]
  rfl
/-- An answer of one item of kind k. -/
noncomputable def smyW (k : Int) (S : List It → It) (drop : Bool) (v : Vec) : Vec := match bB (ValidV v ∧ Counts v) with | true => vecOf k [S (pickL drop (itemsV v))] | false => noV
theorem smyW_val {u : ByteArray} (hu : ¬ u = ⟨#[]⟩) {v : Vec} (h : smyS u v = ⟨#[]⟩) (k : Int) (S : List It → It) (drop : Bool) : smyW k S drop v = vecOf k [S (smyL drop v)] := by
  obtain ⟨a, b⟩ := smy_empty hu h
  have := smy_yes a b S drop u
  unfold smyW
  rw [bB_yes ⟨a, b⟩, this.1]
theorem smyW_not {u : ByteArray} {v : Vec} (h : ¬ smyS u v = ⟨#[]⟩) (k : Int) (S : List It → It) (drop : Bool) : smyW k S drop v = noV := by
  unfold smyW
  rw [bB_no]
  rintro ⟨a, b⟩
  exact h (smy_yes a b S drop u).2.1
theorem smyW_plain {S : List It → It} (hS : ∀ l, GoodI (S l)) (k : Int) (hk : -9223372036854775808 ≤ k ∧ k ≤ 9223372036854775807) (drop : Bool) (v : Vec) : PlainN (smyW k S drop v) := by
  unfold smyW
  split
  · exact plain_one (hS _) k hk
  · exact .inl rfl
theorem good_logI (x : Int) : GoodI (logI x) := by
  unfold logI
  split
  · exact ⟨⟨⟨by decide, by decide⟩, ⟨by decide, by decide⟩, Nat.zero_le _⟩, rfl⟩
  · split
    · exact ⟨⟨⟨by decide, by decide⟩, ⟨by decide, by decide⟩, Nat.zero_le _⟩, rfl⟩
    · exact good_noI
theorem nonLog_ne : ¬ nonLogB = ⟨#[]⟩ := by decide
theorem intsF_congr {f g : Nat → Int} {n : Nat} (h : ∀ i, i < n → f i = g i) : intsF f n = intsF g n := by
  unfold intsF
  refine List.map_congr_left fun i hi => ?_
  rw [h i (List.mem_range.1 hi)]
theorem tF_app (l : List It) (x : It) : ∀ i, i < l.length → tF l i = tF (l ++ [x]) i := fun i hi => by
  unfold tF
  rw [List.getD_eq_getElem?_getD, List.getD_eq_getElem?_getD, List.getElem?_append_left hi]
theorem tF_last (l : List It) (x : It) : tF (l ++ [x]) l.length = truthI x := by
  unfold tF
  rw [List.getD_eq_getElem?_getD, List.getElem?_append_right (Nat.le_refl _)]
  simp
theorem IntR.congr {w wr : World} {f g : Nat → Int} {k : Nat} {v : Value} (h : IntR w wr f k v) (hf : ∀ i, i < k → f i = g i) : IntR w wr g k v := ⟨intsF_congr hf ▸ h.row, h.below⟩
end Go.Proofs.Ytlnjjjoeblopeaa

/- AllOf of the program. -/
namespace Go.Proofs.Ytlnjjjoeblopeaa
open Go.RowKit
set_option maxRecDepth 100000
set_option linter.unusedVariables false

set_option maxHeartbeats 2000000 in
/-- A fold to a logical value, for any function's value. -/
theorem implFoldL (fid : FuncId) (cap : Array Value) (G : Int → It → Int) (P : Int → Prop) (l : List It) (s : Int) (sa : Option Addr) (c lo hi : Nat) (w : World) (hI : ItemsAt lo hi w sa l) (hhi : hi ≤ w.heap.size) (hn : l.length ≤ 1048576) (hgo : callsGo Try.prog fid = true)
    (hG : ∀ r i W, P r → i < l.length → Below w.heap.size w W → Calls Try.prog fid (#[] ++ #[.int .i64 r, .agg #[.int .i64 (l.getD i noI).n, .int .i64 (l.getD i noI).d, .string (l.getD i noI).t]] ++ cap) W fun e w' => e = .returned (.int .i64 (G r (l.getD i noI))) ∧ Below W.heap.size W w')
    (hs : P s) (hP : ∀ r i, P r → i < l.length → P (G r (l.getD i noI))) :
    Calls Try.prog 99 #[.slice sa l.length c, .int .i64 s, .func (.func fid) #[] cap] w fun e w' => e = .returned (.int .i64 (l.foldl G s)) ∧ Below w.heap.size w w' := by
  have AI := Lib.hid (fun (k : Nat) (w1 : World) (hk : k < l.length) (hb : Below w.heap.size w w1) => (hI.below hb hhi).at_ hk)
  have CG := Lib.hid hG
  have PG := Lib.hid hP
  have F0 := Lib.hid (show P ((l.take 0).foldl G s) by rw [fold_zero]; exact hs)
  have E0 := Lib.hid (fold_zero G s l)
  have FS := Lib.hid (fun k (hk : k < l.length) => fold_one G s hk)
  have FF := Lib.hid (fold_full G s l)
  have GO := Lib.hid hgo
  obtain ⟨n, hn'⟩ : ∃ n, l.length = n := ⟨_, rfl⟩
  rw [hn'] at AI CG PG FS FF hn ⊢
  obtain ⟨Z, hZ⟩ : ∃ Z, l.foldl G s = Z := ⟨_, rfl⟩
  rw [hZ] at FF ⊢
  obtain ⟨f, hf⟩ : ∃ f : Nat → Int, (fun k => (l.take k).foldl G s) = f := ⟨_, rfl⟩
  have hfk : ∀ k, (l.take k).foldl G s = f k := fun k => by rw [← hf]
  rw [hfk] at F0 E0 FF
  have FS := Lib.hid (fun k (hk : k < n) => (by rw [← hfk, ← hfk]; exact FS.out k hk : f (k + 1) = G (f k) (l.getD k noI)))
  clear hn' hI hG hP hs hgo hZ hf hfk
  go_enter Try.func99, Try.ntmps99
  go_wp2
  go_loopw [7, 13] (fun v i wr => ∃ k : Nat, k ≤ n ∧ i = .int .i64 k ∧ v = .int .i64 (f k) ∧ P (f k) ∧ Below w.heap.size w wr) (fun _ i _ => n - (intOf i).toNat)
  case atStart => exact ⟨0, Nat.zero_le _, rfl, by rw [E0.out], F0.out, Below.refl _ _⟩
  case round =>
    obtain ⟨k, hk, rfl, rfl, hp, hb⟩ := hrel
    have BB := Lib.hid hb
    have PK := Lib.hid hp
    clear hb hp
    by_cases hlt : k < n
    · obtain ⟨ba, off, rfl, hbB, c0, c1, c2'⟩ := AI.out _ _ hlt BB.out
      have hbw : ba < wr.heap.size := Nat.lt_of_lt_of_le (Nat.lt_of_lt_of_le hbB hhi) BB.out.size
      have c2 : wr.cell? ⟨ba, off + k * 3 + 2, none⟩ = Option.some (.string (l.getD k noI).t) := c2'
      clear c2'
      have CO := Lib.hid (fun W hB => CG.out (f k) k W PK.out hlt hB)
      have PN := Lib.hid (by rw [FS.out k hlt]; exact PG.out (f k) k PK.out hlt : P (f (k + 1)))
      have NX := Lib.hid (FS.out k hlt)
      obtain ⟨x, hx⟩ : ∃ x, l.getD k noI = x := ⟨_, rfl⟩
      rw [hx] at c0 c1 c2 CO NX
      clear hx
      go_upto_region 5 with (fail)
      obtain ⟨w5, hw5⟩ : ∃ W, wr.alloc (.cells #[.int .i64 x.n, .int .i64 x.d, .string x.t] 66) = W := ⟨_, rfl⟩
      have B5 := Lib.hid (show Below w.heap.size w w5 from hw5 ▸ BB.out.alloc BB.out.size _)
      have KX := Lib.hid (show w5.heap[wr.heap.size]? = Option.some (.cells #[.int .i64 x.n, .int .i64 x.d, .string x.t] 66 (0, 0)) from hw5 ▸ blk_new wr _ rfl)
      rw [hw5]
      clear hw5
      obtain ⟨gx, hgx⟩ : ∃ g, wr.heap.size = g := ⟨_, rfl⟩
      rw [hgx] at KX ⊢
      clear hgx
      have H := Lib.hid (show HeldC w w5 ([(gx, 66, #[.int .i64 x.n, .int .i64 x.d, .string x.t])]) from heldC_cons ⟨B5.out, (fun _ h => by cases h)⟩ KX.out)
      refine run_region_seq (ops := (opsOf Try.f99 5)) (S := fun w' => HeldC w w' ([(gx, 66, #[.int .i64 x.n, .int .i64 x.d, .string x.t])])) [(0, true), (1, true), (2, true), (3, false), (4, true)] (by kernel_rfl) (by kernel_rfl) (by kernel_rfl) H.out ?_
      refine run_mov (v := .func (.func fid) #[] cap) (show opAt (opsOf Try.f99 5) 0 = Option.some (some 17, .move (.tmp 2), none) from by kernel_rfl) (by kernel_rfl) (by kernel_rfl) (by kernel_rfl) ?_
      refine run_mov (v := .int .i64 ((f k))) (show opAt (opsOf Try.f99 5) 1 = Option.some (some 18, .move (.tmp 7), none) from by kernel_rfl) (by kernel_rfl) (by kernel_rfl) (by kernel_rfl) ?_
      refine runC_itm (b := gx) (show opAt (opsOf Try.f99 5) 2 = Option.some (some 19, .load 66 (.tmp 9), none) from by kernel_rfl) (by kernel_rfl) (by kernel_rfl) (by kernel_rfl) (List.Mem.head _) ?_
      refine run_callv (f := fid) (first := #[]) (cap := cap) (args := [.int .i64 ((f k)), .agg #[.int .i64 x.n, .int .i64 x.d, .string x.t]]) (show opAt (opsOf Try.f99 5) 3 = Option.some (some 20, .call { callee := .value (.tmp 17), args := [(.tmp 18), (.tmp 19)].toArray, argTypes := [68, 66].toArray }, none) from by kernel_rfl) (by kernel_rfl) (by kernel_rfl) (by kernel_rfl) GO.out (by kernel_rfl) ?_
      refine (CO.out _ H.out.1).mono ?_
      rintro en rw1 ⟨rfl, hb⟩
      refine ⟨_, rfl, heldC_call H.out hb, ?_⟩
      have H := Lib.hid (heldC_call H.out hb)
      clear hb
      refine run_asg (v := .int .i64 ((G (f k) x))) (show opAt (opsOf Try.f99 5) 4 = Option.some (some 7, .assign (.tmp 20), none) from by kernel_rfl) (by kernel_rfl) (by kernel_rfl) (by kernel_rfl) ?_
      refine run_done ?_
      simp only [putAll, Act.put, List.setIfInBounds_toArray, List.set_cons_zero, List.set_cons_succ]
      have HB := Lib.hid H.out.1
      go_wp2
      go_roundw
      case rel => exact ⟨k + 1, by omega, by go_num, by rw [NX.out], PN.out, HB.out⟩
      case measure => simp [intOf]; omega
    · obtain rfl : k = n := by omega
      go_wp2
      go_ret
      exact ⟨by rw [FF.out]; rfl, BB.out⟩
set_option maxHeartbeats 1000000 in
theorem implAllClo (fo : FuncId) (cn : Int → Int → Int) (r : Int) (x : It) (g : Nat) (w : World) (hgo : callsGo Try.prog fo = true)
    (hc : ∀ W, Calls Try.prog fo (#[] ++ #[.int .i64 r, .int .i64 (truthI x)] ++ #[]) W fun e w' => e = .returned (.int .i64 (cn r (truthI x))) ∧ Below W.heap.size W w') (hx : NumIt x)
    (hg : w.heap[g]? = Option.some (.cells #[.func (.func fo) #[] #[]] 60 (0, 0))) :
    Calls Try.prog 100 #[.int .i64 r, .agg #[.int .i64 x.n, .int .i64 x.d, .string x.t], .pointer (Option.some ⟨g, 0, none⟩)] w fun e w' => e = .returned (.int .i64 (cn r (truthI x))) ∧ Below w.heap.size w w' := by
  have CX := Lib.hid (fun W => implTruth x W hx)
  have CF := Lib.hid hc
  have GO := Lib.hid hgo
  have KG0 := Lib.hid hg
  have hgw := (Array.getElem?_eq_some_iff.1 hg).1
  clear hc hgo hx hg
  go_enter Try.func100, Try.ntmps100
  go_upto_region 1 with (fail)
  obtain ⟨w1, hw1⟩ : ∃ W, w.alloc (.cells #[.int .i64 x.n, .int .i64 x.d, .string x.t] 66) = W := ⟨_, rfl⟩
  have B1 := Lib.hid (show Below w.heap.size w w1 from hw1 ▸ below1 w _)
  have K0 := Lib.hid (show w1.heap[w.heap.size]? = Option.some (.cells #[.int .i64 x.n, .int .i64 x.d, .string x.t] 66 (0, 0)) from hw1 ▸ blk_new w _ rfl)
  rw [hw1]
  clear hw1
  have H := Lib.hid (show HeldC w w1 ([(g, 60, #[.func (.func fo) #[] #[]]), (w.heap.size, 66, #[.int .i64 x.n, .int .i64 x.d, .string x.t])]) from heldC_cons (heldC_cons ⟨B1.out, (fun _ h => by cases h)⟩ K0.out) ((B1.out.block g hgw).trans KG0.out))
  refine run_region (ops := (opsOf Try.f100 1)) (S := fun w' => HeldC w w' ([(g, 60, #[.func (.func fo) #[] #[]]), (w.heap.size, 66, #[.int .i64 x.n, .int .i64 x.d, .string x.t])])) [(0, true), (1, true), (2, true), (3, false), (4, false), (5, true)] (by kernel_rfl) (by kernel_rfl) (by kernel_rfl) (by kernel_rfl) (by kernel_rfl) (fun _ _ _ _ _ h => h) (heldC_drew H.out) ?_
  have H := Lib.hid (heldC_drew H.out)
  refine runC_cell (b := g) (j := 0) (v := .func (.func fo) #[] #[]) load_fn (show opAt (opsOf Try.f100 1) 0 = Option.some (some 6, .load 60 (.tmp 2), none) from by kernel_rfl) (by kernel_rfl) (by kernel_rfl) (by kernel_rfl) (List.Mem.head _) rfl ?_
  refine run_mov (v := .int .i64 r) (show opAt (opsOf Try.f100 1) 1 = Option.some (some 7, .move (.tmp 0), none) from by kernel_rfl) (by kernel_rfl) (by kernel_rfl) (by kernel_rfl) ?_
  refine runC_itm (b := w.heap.size) (show opAt (opsOf Try.f100 1) 2 = Option.some (some 8, .load 66 (.tmp 4), none) from by kernel_rfl) (by kernel_rfl) (by kernel_rfl) (by kernel_rfl) (List.Mem.tail _ (List.Mem.head _)) ?_
  refine run_call (args := [.agg #[.int .i64 x.n, .int .i64 x.d, .string x.t]]) (show opAt (opsOf Try.f100 1) 3 = Option.some (some 9, .call { callee := .value (.func 60), args := [(.tmp 8)].toArray, argTypes := [66].toArray }, none) from by kernel_rfl) (by kernel_rfl) (by kernel_rfl) (by kernel_rfl) (by kernel_rfl) ?_
  refine (CX.out _).mono ?_
  rintro en rw1 ⟨rfl, hb⟩
  refine ⟨_, rfl, heldC_call H.out hb, ?_⟩
  have H := Lib.hid (heldC_call H.out hb)
  clear hb
  refine run_callv (f := fo) (first := #[]) (cap := #[]) (args := [.int .i64 r, .int .i64 ((truthI x))]) (show opAt (opsOf Try.f100 1) 4 = Option.some (some 10, .call { callee := .value (.tmp 6), args := [(.tmp 7), (.tmp 9)].toArray, argTypes := [68, 68].toArray }, none) from by kernel_rfl) (by kernel_rfl) (by kernel_rfl) (by kernel_rfl) GO.out (by kernel_rfl) ?_
  refine (CF.out _).mono ?_
  rintro en rw2 ⟨rfl, hb⟩
  refine ⟨_, rfl, heldC_call H.out hb, ?_⟩
  have H := Lib.hid (heldC_call H.out hb)
  clear hb
  refine run_asg (v := .int .i64 ((cn r (truthI x)))) (show opAt (opsOf Try.f100 1) 5 = Option.some (some 5, .assign (.tmp 10), none) from by kernel_rfl) (by kernel_rfl) (by kernel_rfl) (by kernel_rfl) ?_
  refine run_done ?_
  simp only [putAll, Act.put, List.setIfInBounds_toArray, List.set_cons_zero, List.set_cons_succ]
  have HB := Lib.hid H.out.1
  go_wp2
  go_ret
  exact ⟨rfl, HB.out⟩
set_option maxHeartbeats 4000000 in
theorem implAllOf (d : Nat) (v : Vec) (val : Value) (drop some : Bool) (lo hi : Nat) (w : World) (hv : VecAt lo hi w d v val) (hhi : hi ≤ w.heap.size) (hsm : Small d v) :
    Calls Try.prog 36 #[val, .bool drop, .bool some] w (ResVS 1 (smyW 1 (fun l => logI (allG some l)) drop v) (smyS nonLogB v) w) := by
  have C1 := Lib.hid (fun (w1 : World) (hb : Below w.heap.size w w1) => implTaken d v val drop nonLogB nonLog_ne lo hi w1 (hv.below hb hhi) (Nat.le_trans hhi hb.size) hsm)
  obtain ⟨VV, hVV⟩ : ∃ V, v = V := ⟨_, rfl⟩
  rw [hVV] at C1 ⊢
  obtain ⟨kk, items, parts, names, cls, levels, code, env⟩ := v
  obtain ⟨d', ai, ci, ap, cp, an, cn, ac, cc, al, cl, ed, rfl, hI, hN, hC, hL, hP⟩ := vecAt_open hv
  clear hv hI hN hC hL hP hsm ed hVV
  go_enter Try.func36, Try.ntmps36
  go_wp2_with fail
  obtain ⟨w1, hw1⟩ : ∃ W, (w.alloc (.cells #[.int .i64 kk, .slice ai items.length ci, .slice ap parts.length cp, .slice an names.length cn, .slice ac cls.length cc, .slice al levels.length cl, .int .i64 code, .int .i64 env] 31)).alloc (.cells #[.int .i64 0, .slice none 0 0, .slice none 0 0, .slice none 0 0, .slice none 0 0, .slice none 0 0, .int .i64 0, .int .i64 0] 31) = W := ⟨_, rfl⟩
  have hsz : (w.alloc (.cells #[.int .i64 kk, .slice ai items.length ci, .slice ap parts.length cp, .slice an names.length cn, .slice ac cls.length cc, .slice al levels.length cl, .int .i64 code, .int .i64 env] 31)).heap.size = w.heap.size + 1 := by simp
  have B1 := Lib.hid (show Below w.heap.size w w1 from hw1 ▸ (below1 w _).alloc (by simp) _)
  have KA := Lib.hid (show w1.heap[w.heap.size]? = Option.some (.cells #[.int .i64 kk, .slice ai items.length ci, .slice ap parts.length cp, .slice an names.length cn, .slice ac cls.length cc, .slice al levels.length cl, .int .i64 code, .int .i64 env] 31 (0, 0)) from hw1 ▸ blk_old (blk_new w _ rfl))
  have KR := Lib.hid (show w1.heap[w.heap.size + 1]? = Option.some (.cells #[.int .i64 0, .slice none 0 0, .slice none 0 0, .slice none 0 0, .slice none 0 0, .slice none 0 0, .int .i64 0, .int .i64 0] 31 (0, 0)) from hw1 ▸ hsz ▸ blk_new (w.alloc (.cells #[.int .i64 kk, .slice ai items.length ci, .slice ap parts.length cp, .slice an names.length cn, .slice ac cls.length cc, .slice al levels.length cl, .int .i64 code, .int .i64 env] 31)) (.cells #[.int .i64 0, .slice none 0 0, .slice none 0 0, .slice none 0 0, .slice none 0 0, .slice none 0 0, .int .i64 0, .int .i64 0] 31) rfl)
  rw [hw1]
  clear hw1 hsz
  refine (C1.out _ B1.out).mono ?_
  rintro e w2 ⟨sa, n, c, rfl, hln, hit, b⟩
  have B2 := Lib.hid (below_then B1.out b)
  have KR := Lib.hid (blk_below b KR.out)
  clear b
  by_cases hs : smyS nonLogB VV = ⟨#[]⟩
  · cases some with
    | true =>
      have XV := Lib.hid (smyW_val nonLog_ne hs 1 (fun l => logI (allG true l)) drop)
      have CF := Lib.hid (fun (g : Nat) (W : World) (hb : Below w2.heap.size w2 W) (hg : W.heap[g]? = Option.some (.cells #[.func (.func 98) #[] #[]] 60 (0, 0))) => (by
        have h := implFoldL 100 #[.pointer (Option.some ⟨g, 0, none⟩)] (cnL true) L3 (smyL drop VV) 0 sa c 0 w2.heap.size W (hit.below hb (Nat.le_refl _)) hb.size (by have := smyL_len drop VV; omega) (by kernel_rfl) (fun r i W' hr hi hb' => implAllClo 98 oL r ((smyL drop VV).getD i noI) g W' (by kernel_rfl) (fun W => (implOr3 r _ W hr (truth_three _)).mono (by rintro e w' ⟨rfl, rfl⟩; exact ⟨rfl, Below.refl _ _⟩)) (smyL_at drop VV i) (blk_below hb' hg)) (stL_three true) (fun r i _ _ => cnL_three true r _)
        rw [show (smyL drop VV).foldl (cnL true) 0 = allG true (smyL drop VV) from fold_allG true _] at h
        exact h : Calls Try.prog 99 #[.slice sa (smyL drop VV).length c, .int .i64 0, .func (.func 100) #[] #[.pointer (Option.some ⟨g, 0, none⟩)]] W (fun e w' => e = .returned (.int .i64 (allG true (smyL drop VV))) ∧ Below W.heap.size W w')))
      rw [← hln] at CF
      have CI := Lib.hid (fun W => implLogItem (allG true (smyL drop VV)) W (allG_three _ _))
      rw [hs]
      have hs' := hs
      obtain ⟨z, hz⟩ : ∃ z, logI (allG true (smyL drop VV)) = z := ⟨_, rfl⟩
      rw [hz] at XV CI
      obtain ⟨q, hq⟩ : ∃ q, allG true (smyL drop VV) = q := ⟨_, rfl⟩
      rw [hq] at CF CI
      clear hz hq hs hit hln
      have hrz := (Array.getElem?_eq_some_iff.1 KR.out).1
      go_wp2_with fail
      obtain ⟨w3, hw3⟩ : ∃ W, w2.alloc (.cells #[.func (.func 98) #[] #[]] 60) = W := ⟨_, rfl⟩
      have b3 : Below w2.heap.size w2 w3 := hw3 ▸ below1 w2 _
      have B3 := Lib.hid (below_then B2.out b3)
      have KG := Lib.hid (show w3.heap[w2.heap.size]? = Option.some (.cells #[.func (.func 98) #[] #[]] 60 (0, 0)) from hw3 ▸ blk_new w2 _ rfl)
      have KR := Lib.hid (blk_below b3 KR.out)
      rw [hw3]
      clear hw3
      with_reducible refine (CF.out w2.heap.size _ b3 KG.out).mono ?_
      rintro e w4 ⟨rfl, b⟩
      clear b3
      have B4 := Lib.hid (below_then B3.out b)
      have KR := Lib.hid (blk_below b KR.out)
      clear b
      go_wp2_with fail
      with_reducible refine (CI.out _).mono ?_
      rintro e w5 ⟨rfl, b⟩
      have B5 := Lib.hid (below_then B4.out b)
      have KR := Lib.hid (blk_below b KR.out)
      clear b
      have hr5 := (Array.getElem?_eq_some_iff.1 KR.out).1
      obtain ⟨z0, z1, z2, z3, z4, z5, z6, z7⟩ := vec8 KR.out
      obtain ⟨f0, f1, f2, f3, f4, f5, f6, f7⟩ := free8 KR.out
      have XS := Lib.hid hs'
      clear hs'
      go_wp2
      rw [XV.out, XS.out]
      exact vec_oneS rfl rfl rfl rfl KR.out B5.out (Nat.le_succ _)
    | false =>
      have XV := Lib.hid (smyW_val nonLog_ne hs 1 (fun l => logI (allG false l)) drop)
      have CF := Lib.hid (fun (g : Nat) (W : World) (hb : Below w2.heap.size w2 W) (hg : W.heap[g]? = Option.some (.cells #[.func (.func 97) #[] #[]] 60 (0, 0))) => (by
        have h := implFoldL 100 #[.pointer (Option.some ⟨g, 0, none⟩)] (cnL false) L3 (smyL drop VV) 1 sa c 0 w2.heap.size W (hit.below hb (Nat.le_refl _)) hb.size (by have := smyL_len drop VV; omega) (by kernel_rfl) (fun r i W' hr hi hb' => implAllClo 97 aL r ((smyL drop VV).getD i noI) g W' (by kernel_rfl) (fun W => (implAnd3 r _ W hr (truth_three _)).mono (by rintro e w' ⟨rfl, rfl⟩; exact ⟨rfl, Below.refl _ _⟩)) (smyL_at drop VV i) (blk_below hb' hg)) (stL_three false) (fun r i _ _ => cnL_three false r _)
        rw [show (smyL drop VV).foldl (cnL false) 1 = allG false (smyL drop VV) from fold_allG false _] at h
        exact h : Calls Try.prog 99 #[.slice sa (smyL drop VV).length c, .int .i64 1, .func (.func 100) #[] #[.pointer (Option.some ⟨g, 0, none⟩)]] W (fun e w' => e = .returned (.int .i64 (allG false (smyL drop VV))) ∧ Below W.heap.size W w')))
      rw [← hln] at CF
      have CI := Lib.hid (fun W => implLogItem (allG false (smyL drop VV)) W (allG_three _ _))
      rw [hs]
      have hs' := hs
      obtain ⟨z, hz⟩ : ∃ z, logI (allG false (smyL drop VV)) = z := ⟨_, rfl⟩
      rw [hz] at XV CI
      obtain ⟨q, hq⟩ : ∃ q, allG false (smyL drop VV) = q := ⟨_, rfl⟩
      rw [hq] at CF CI
      clear hz hq hs hit hln
      have hrz := (Array.getElem?_eq_some_iff.1 KR.out).1
      go_wp2_with fail
      obtain ⟨w3, hw3⟩ : ∃ W, w2.alloc (.cells #[.func (.func 97) #[] #[]] 60) = W := ⟨_, rfl⟩
      have b3 : Below w2.heap.size w2 w3 := hw3 ▸ below1 w2 _
      have B3 := Lib.hid (below_then B2.out b3)
      have KG := Lib.hid (show w3.heap[w2.heap.size]? = Option.some (.cells #[.func (.func 97) #[] #[]] 60 (0, 0)) from hw3 ▸ blk_new w2 _ rfl)
      have KR := Lib.hid (blk_below b3 KR.out)
      rw [hw3]
      clear hw3
      with_reducible refine (CF.out w2.heap.size _ b3 KG.out).mono ?_
      rintro e w4 ⟨rfl, b⟩
      clear b3
      have B4 := Lib.hid (below_then B3.out b)
      have KR := Lib.hid (blk_below b KR.out)
      clear b
      go_wp2_with fail
      with_reducible refine (CI.out _).mono ?_
      rintro e w5 ⟨rfl, b⟩
      have B5 := Lib.hid (below_then B4.out b)
      have KR := Lib.hid (blk_below b KR.out)
      clear b
      have hr5 := (Array.getElem?_eq_some_iff.1 KR.out).1
      obtain ⟨z0, z1, z2, z3, z4, z5, z6, z7⟩ := vec8 KR.out
      obtain ⟨f0, f1, f2, f3, f4, f5, f6, f7⟩ := free8 KR.out
      have XS := Lib.hid hs'
      clear hs'
      go_wp2
      rw [XV.out, XS.out]
      exact vec_oneS rfl rfl rfl rfl KR.out B5.out (Nat.le_succ _)
  · have XV := Lib.hid (smyW_not hs 1 (fun l => logI (allG some l)) drop)
    obtain ⟨R, hR⟩ : ∃ R, smyS nonLogB VV = R := ⟨_, rfl⟩
    have XS := Lib.hid hR
    rw [hR] at hs ⊢
    have hRb : (R.toList == []) = false := by have h := str_not hs; rw [ByteArray.toList_eq ⟨#[]⟩] at h; exact h
    clear hs hR
    obtain ⟨z0, z1, z2, z3, z4, z5, z6, z7⟩ := vec8 KR.out
    obtain ⟨f0, f1, f2, f3, f4, f5, f6, f7⟩ := free8 KR.out
    go_wp2
    rw [XV.out, XS.out]
    exact vec_endS rfl rfl rfl rfl KR.out (zeroS _ w _ (put8_below B2.out (Nat.le_succ _)))
end Go.Proofs.Ytlnjjjoeblopeaa

/- LogicOf of the reference. -/
namespace Go.Proofs.Ytlnjjjoeblopeaa
open Go.RowKit
set_option maxRecDepth 100000
set_option linter.unusedVariables false

set_option maxHeartbeats 4000000 in
theorem specLogicOf (d0 d1 : Nat) (a b : Vec) (op : ByteArray) (va vb : Value) (lo hi : Nat) (w : World) (h0 : VecAt lo hi w d0 a va) (h1 : VecAt lo hi w d1 b vb) (hhi : hi ≤ w.heap.size) (hsm0 : Small d0 a) (hsm1 : Small d1 b) :
    Calls Try.prog 15 #[.string op, va, vb] w (ResVS 1 (lgcV op a b) (lgcS op a b) w) := by
  have CA := Lib.hid (fun (w1 : World) (hb : Below w.heap.size w w1) => specIsVector d0 a va lo hi w1 (h0.below hb hhi) (Nat.le_trans hhi hb.size) hsm0)
  have CB := Lib.hid (fun (w1 : World) (hb : Below w.heap.size w w1) => specIsVector d1 b vb lo hi w1 (h1.below hb hhi) (Nat.le_trans hhi hb.size) hsm1)
  have SA := Lib.hid (fun (w1 : World) (hb : Below w.heap.size w w1) (hv : ValidV a) => specLogU d0 a va lo hi w1 (h0.below hb hhi) (Nat.le_trans hhi hb.size) hsm0 hv)
  have SB := Lib.hid (fun (w1 : World) (hb : Below w.heap.size w w1) (hv : ValidV b) => specLogU d1 b vb lo hi w1 (h1.below hb hhi) (Nat.le_trans hhi hb.size) hsm1 hv)
  have BD := Lib.hid (fun W => specBad W)
  obtain ⟨VA, hVA⟩ : ∃ V, a = V := ⟨_, rfl⟩
  obtain ⟨VB, hVB⟩ : ∃ V, b = V := ⟨_, rfl⟩
  rw [hVA] at CA SA ⊢
  rw [hVB] at CB SB ⊢
  have NA := Lib.hid (show namesV VA = namesV a by rw [hVA])
  have NB := Lib.hid (show namesV VB = namesV b by rw [hVB])
  obtain ⟨k0, items0, parts0, names0, cls0, lev0, code0, env0⟩ := a
  obtain ⟨d0', ai0, ci0, ap0, cp0, an0, cn0, ac0, cc0, al0, cl0, ed0, rfl, hI0, hN0, hC0, hL0, hP0⟩ := vecAt_open h0
  have ln0 : names0.length ≤ 1048576 := by subst ed0; exact hsm0.2.2.1
  have li0 : items0.length ≤ 1048576 := by subst ed0; exact hsm0.1
  have lp0 : parts0.length ≤ 1048576 := by subst ed0; exact hsm0.2.1
  obtain ⟨k1, items1, parts1, names1, cls1, lev1, code1, env1⟩ := b
  obtain ⟨d1', ai1, ci1, ap1, cp1, an1, cn1, ac1, cc1, al1, cl1, ed1, rfl, hI1, hN1, hC1, hL1, hP1⟩ := vecAt_open h1
  have ln1 : names1.length ≤ 1048576 := by subst ed1; exact hsm1.2.2.1
  have li1 : items1.length ≤ 1048576 := by subst ed1; exact hsm1.1
  have lp1 : parts1.length ≤ 1048576 := by subst ed1; exact hsm1.2.1
  have NA := Lib.hid (show namesV VA = names0 from NA.out)
  have NB := Lib.hid (show namesV VB = names1 from NB.out)
  have LA := Lib.hid (fun (h : ValidV VA) (hc : Counts VA) => (by rw [← hVA] at h hc ⊢; exact len_counts h hc : lenV k0 items0.length parts0.length = itL VA))
  have LB := Lib.hid (fun (h : ValidV VB) (hc : Counts VB) => (by rw [← hVB] at h hc ⊢; exact len_counts h hc : lenV k1 items1.length parts1.length = itL VB))
  have NM := Lib.hid (fun (N : Nat) (w1 : World) (hb : Below w.heap.size w w1) => specNames k0 names0 ai0 ap0 an0 ac0 al0 items0.length ci0 parts0.length cp0 cn0 cls0.length cc0 lev0.length cl0 code0 env0 k1 names1 ai1 ap1 an1 ac1 al1 items1.length ci1 parts1.length cp1 cn1 cls1.length cc1 lev1.length cl1 code1 env1 N lo hi w1 (hN0.below hb hhi) (hN1.below hb hhi) (Nat.le_trans hhi hb.size) ln0 ln1 li0 lp0 li1 lp1)
  clear h0 h1 hsm0 hsm1 hI0 hN0 hC0 hL0 hP0 hI1 hN1 hC1 hL1 hP1 ed0 ed1 hVA hVB li0 li1 lp0 lp1 ln0 ln1
  go_enter Try.func15, Try.ntmps15
  go_wp2_with fail
  obtain ⟨w1, hw1⟩ : ∃ W, ((w.alloc (.cells #[.int .i64 k0, .slice ai0 items0.length ci0, .slice ap0 parts0.length cp0, .slice an0 names0.length cn0, .slice ac0 cls0.length cc0, .slice al0 lev0.length cl0, .int .i64 code0, .int .i64 env0] 31)).alloc (.cells #[.int .i64 k1, .slice ai1 items1.length ci1, .slice ap1 parts1.length cp1, .slice an1 names1.length cn1, .slice ac1 cls1.length cc1, .slice al1 lev1.length cl1, .int .i64 code1, .int .i64 env1] 31)).alloc (.cells #[.int .i64 0, .slice none 0 0, .slice none 0 0, .slice none 0 0, .slice none 0 0, .slice none 0 0, .int .i64 0, .int .i64 0] 31) = W := ⟨_, rfl⟩
  have hsz1 : (w.alloc (.cells #[.int .i64 k0, .slice ai0 items0.length ci0, .slice ap0 parts0.length cp0, .slice an0 names0.length cn0, .slice ac0 cls0.length cc0, .slice al0 lev0.length cl0, .int .i64 code0, .int .i64 env0] 31)).heap.size = w.heap.size + 1 := by simp
  have hsz2 : ((w.alloc (.cells #[.int .i64 k0, .slice ai0 items0.length ci0, .slice ap0 parts0.length cp0, .slice an0 names0.length cn0, .slice ac0 cls0.length cc0, .slice al0 lev0.length cl0, .int .i64 code0, .int .i64 env0] 31)).alloc (.cells #[.int .i64 k1, .slice ai1 items1.length ci1, .slice ap1 parts1.length cp1, .slice an1 names1.length cn1, .slice ac1 cls1.length cc1, .slice al1 lev1.length cl1, .int .i64 code1, .int .i64 env1] 31)).heap.size = w.heap.size + 1 + 1 := by simp
  have B1 := Lib.hid (show Below w.heap.size w w1 from hw1 ▸ (below2 w _ _).alloc (by simp; omega) _)
  have KA := Lib.hid (show w1.heap[w.heap.size]? = some (.cells #[.int .i64 k0, .slice ai0 items0.length ci0, .slice ap0 parts0.length cp0, .slice an0 names0.length cn0, .slice ac0 cls0.length cc0, .slice al0 lev0.length cl0, .int .i64 code0, .int .i64 env0] 31 (0, 0)) from hw1 ▸ blk_old (blk_old (blk_new w _ rfl)))
  have KB := Lib.hid (show w1.heap[w.heap.size + 1]? = some (.cells #[.int .i64 k1, .slice ai1 items1.length ci1, .slice ap1 parts1.length cp1, .slice an1 names1.length cn1, .slice ac1 cls1.length cc1, .slice al1 lev1.length cl1, .int .i64 code1, .int .i64 env1] 31 (0, 0)) from hw1 ▸ blk_old (hsz1 ▸ blk_new (w.alloc (.cells #[.int .i64 k0, .slice ai0 items0.length ci0, .slice ap0 parts0.length cp0, .slice an0 names0.length cn0, .slice ac0 cls0.length cc0, .slice al0 lev0.length cl0, .int .i64 code0, .int .i64 env0] 31)) (.cells #[.int .i64 k1, .slice ai1 items1.length ci1, .slice ap1 parts1.length cp1, .slice an1 names1.length cn1, .slice ac1 cls1.length cc1, .slice al1 lev1.length cl1, .int .i64 code1, .int .i64 env1] 31) rfl))
  have KR := Lib.hid (show w1.heap[w.heap.size + 1 + 1]? = some (.cells #[.int .i64 0, .slice none 0 0, .slice none 0 0, .slice none 0 0, .slice none 0 0, .slice none 0 0, .int .i64 0, .int .i64 0] 31 (0, 0)) from hw1 ▸ hsz2 ▸ blk_new ((w.alloc (.cells #[.int .i64 k0, .slice ai0 items0.length ci0, .slice ap0 parts0.length cp0, .slice an0 names0.length cn0, .slice ac0 cls0.length cc0, .slice al0 lev0.length cl0, .int .i64 code0, .int .i64 env0] 31)).alloc (.cells #[.int .i64 k1, .slice ai1 items1.length ci1, .slice ap1 parts1.length cp1, .slice an1 names1.length cn1, .slice ac1 cls1.length cc1, .slice al1 lev1.length cl1, .int .i64 code1, .int .i64 env1] 31)) (.cells #[.int .i64 0, .slice none 0 0, .slice none 0 0, .slice none 0 0, .slice none 0 0, .slice none 0 0, .int .i64 0, .int .i64 0] 31) rfl)
  rw [hw1]
  clear hw1 hsz1 hsz2
  with_reducible refine (CA.out _ B1.out).mono ?_
  rintro e w2 ⟨rfl, b⟩
  have B2 := Lib.hid (below_then B1.out b)
  have KA := Lib.hid (blk_below b KA.out)
  have KB := Lib.hid (blk_below b KB.out)
  have KR := Lib.hid (blk_below b KR.out)
  clear b
  by_cases qa : ValidV VA
  · rw [bB_yes qa]
    obtain ⟨ka0, ka1, ka2, ka3, ka4, ka5, ka6, ka7⟩ := vec8 KA.out
    obtain ⟨kb0, kb1, kb2, kb3, kb4, kb5, kb6, kb7⟩ := vec8 KB.out
    go_wp2_with fail
    with_reducible refine (CB.out _ B2.out).mono ?_
    rintro e w3 ⟨rfl, b⟩
    have B3 := Lib.hid (below_then B2.out b)
    have KA := Lib.hid (blk_below b KA.out)
    have KB := Lib.hid (blk_below b KB.out)
    have KR := Lib.hid (blk_below b KR.out)
    clear b
    clear ka0 ka1 ka2 ka3 ka4 ka5 ka6 ka7 kb0 kb1 kb2 kb3 kb4 kb5 kb6 kb7
    by_cases qb : ValidV VB
    · rw [bB_yes qb]
      have QQ := Lib.hid (And.intro qa qb)
      have SA := Lib.hid (fun w1 hb => SA.out w1 hb qa)
      have SB := Lib.hid (fun w1 hb => SB.out w1 hb qb)
      have hm40 := cntL_le qa
      have hn40 := cntL_le qb
      clear qa qb
      obtain ⟨ka0, ka1, ka2, ka3, ka4, ka5, ka6, ka7⟩ := vec8 KA.out
      obtain ⟨kb0, kb1, kb2, kb3, kb4, kb5, kb6, kb7⟩ := vec8 KB.out
      go_wp2_with fail
      with_reducible refine (SA.out _ B3.out).mono ?_
      rintro e w4 ⟨sx, cx, rfl, hrx, b⟩
      have B4 := Lib.hid (below_then B3.out b)
      have KA := Lib.hid (blk_below b KA.out)
      have KB := Lib.hid (blk_below b KB.out)
      have KR := Lib.hid (blk_below b KR.out)
      have RX := Lib.hid hrx
      clear b hrx
      clear ka0 ka1 ka2 ka3 ka4 ka5 ka6 ka7 kb0 kb1 kb2 kb3 kb4 kb5 kb6 kb7
      obtain ⟨ka0, ka1, ka2, ka3, ka4, ka5, ka6, ka7⟩ := vec8 KA.out
      obtain ⟨kb0, kb1, kb2, kb3, kb4, kb5, kb6, kb7⟩ := vec8 KB.out
      go_wp2_with fail
      with_reducible refine (SB.out _ B4.out).mono ?_
      rintro e w5 ⟨sy, cy, rfl, hry, b⟩
      have B5 := Lib.hid (below_then B4.out b)
      have KA := Lib.hid (blk_below b KA.out)
      have KB := Lib.hid (blk_below b KB.out)
      have KR := Lib.hid (blk_below b KR.out)
      have RX := Lib.hid (fun hc => ownsRow_below (RX.out hc) b)
      have RY := Lib.hid hry
      clear b hry
      clear ka0 ka1 ka2 ka3 ka4 ka5 ka6 ka7 kb0 kb1 kb2 kb3 kb4 kb5 kb6 kb7
      obtain ⟨m, hm⟩ : ∃ m, cntL VA = m := ⟨_, rfl⟩
      obtain ⟨n, hn⟩ : ∃ n, cntL VB = n := ⟨_, rfl⟩
      rw [hm] at RX hm40 ⊢
      rw [hn] at RY hn40 ⊢
      have HM := Lib.hid hm
      have HN := Lib.hid hn
      clear hm hn
      have CZ := Lib.hid (fun W => specSize m n W (by omega) (by omega))
      have PZ := Lib.hid (fun h => sizeL_pos (m := m) (n := n) h)
      have Z40 := sizeL_le hm40 hn40
      obtain ⟨z, hz⟩ : ∃ z, sizeL m n = z := ⟨_, rfl⟩
      rw [hz] at CZ PZ Z40
      have HZ := Lib.hid hz
      clear hz
      go_wp2_with fail
      with_reducible refine (CZ.out _).mono ?_
      rintro e w' ⟨rfl, rfl⟩
      by_cases hop : op = ⟨#[38]⟩ ∨ op = ⟨#[124]⟩
      · by_cases hc : Counts VA ∧ Counts VB
        · rw [bB_yes hc.1, bB_yes hc.2]
          have HN' := Lib.hid (show lgcN VA VB = z by unfold lgcN; rw [← cntL_yes hc.1, ← cntL_yes hc.2, HM.out, HN.out, HZ.out])
          by_cases hzn : 0 ≤ z
          · have XX := Lib.hid (lgc_yes QQ.out hop hc (by rw [HN'.out]; exact hzn))
            have LA := LA.out QQ.out.1 hc.1
            have LB := LB.out QQ.out.2 hc.2
            rw [LA, LB] at NM
            have MA := Lib.hid (show itL VA = m from (cntL_yes hc.1).symm.trans HM.out)
            have MB := Lib.hid (show itL VB = n from (cntL_yes hc.2).symm.trans HN.out)
            rw [MA.out, MB.out] at NM
            rw [MA.out, MB.out, NA.out, NB.out, HN'.out] at XX
            obtain ⟨fx, hfx⟩ : ∃ f : Nat → Int, (fun i => truthI ((itemsV VA).getD i noI)) = f := ⟨_, rfl⟩
            obtain ⟨fy, hfy⟩ : ∃ f : Nat → Int, (fun i => truthI ((itemsV VB).getD i noI)) = f := ⟨_, rfl⟩
            have RX' := RX.out hc.1
            have RY' := RY.out hc.2
            rw [hfx] at RX'
            rw [hfy] at RY'
            obtain ⟨sx', cx', ex, ix⟩ := ints_of_row RX'
            obtain ⟨sy', cy', ey, iy⟩ := ints_of_row RY'
            simp only [Value.slice.injEq, true_and] at ex ey
            obtain ⟨rfl, rfl⟩ := ex
            obtain ⟨rfl, rfl⟩ := ey
            obtain ⟨f, hf⟩ : ∃ f : Nat → Int, lgcF op VA VB = f := ⟨_, rfl⟩
            have FE := Lib.hid (fun i => (by rw [← hf, ← hfx, ← hfy]; show _ = connL op (truthI ((itemsV VA).getD (i % m) noI)) (truthI ((itemsV VB).getD (i % n) noI)); rw [← MA.out, ← MB.out]; rfl : f i = connL op (fx (i % m)) (fy (i % n))))
            rw [hf] at XX
            obtain ⟨W4, hW4⟩ : ∃ W, w5 = W := ⟨_, rfl⟩
            rw [hW4] at B5 KA KB KR ix iy ⊢
            have IX := Lib.hid ix
            have IY := Lib.hid iy
            have KA5 := KA
            have KB5 := KB
            have KR5 := KR
            have hltR := (Array.getElem?_eq_some_iff.1 KR.out).1
            have ST := Lib.hid (show IntR W4 (W4.alloc (.cells #[] 3)) f 0 (.slice (some ⟨W4.heap.size, 0, none⟩) 0 0) from
              ⟨⟨rfl, .inr ⟨W4.heap.size, 0, #[], rfl, Nat.le_refl _, blk_new W4 _ rfl, Nat.le_refl _, Nat.zero_le _, rfl, rfl⟩⟩, below1 W4 _⟩)
            clear hc hf hfx hfy ix iy RX' RY' RX RY LA LB HM HN HZ HN' QQ MA MB hW4 SA SB CA CB CZ
            rcases hop with rfl | rfl
            · have FE := Lib.hid (fun i => (FE.out i).trans (conn_and _ _))
              go_wp2
              go_loopw [13, 14] (fun v i wr => ∃ k : Nat, (k : Int) ≤ z ∧ i = .int .i64 k ∧ IntR W4 wr f k v) (fun _ i _ => (z - intOf i).toNat)
              case atStart => exact ⟨0, by omega, rfl, ST.out⟩
              case round =>
                obtain ⟨k, hk, rfl, hir⟩ := hrel
                have IR := Lib.hid hir
                clear hir
                by_cases hlt : (k : Int) < z
                · obtain ⟨hm0, hn0⟩ := PZ.out (by omega)
                  obtain ⟨bx, ox, rfl, hbx, hcx⟩ := IX.out (k % m) (Nat.mod_lt k hm0)
                  obtain ⟨bY, oy, rfl, hby, hcy⟩ := IY.out (k % n) (Nat.mod_lt k hn0)
                  have CX := Lib.hid hcx
                  have CY := Lib.hid hcy
                  obtain ⟨sv, cv, rfl, _⟩ := ints_of_row IR.out.row
                  have CO := Lib.hid (fun W => specAndL (fx (k % m)) (fy (k % n)) W)
                  clear hcx hcy
                  have H := Lib.hid (show HeldC W4 wr [] from ⟨IR.out.below, (fun _ h => by cases h)⟩)
                  go_upto_region 17 with (fail)
                  refine run_region (ops := (opsOf Try.f15 17)) (S := fun w' => HeldC W4 w' ([])) [(0, true), (1, true), (2, true), (3, true), (4, true), (5, true), (6, true), (7, true), (8, true), (9, true), (10, true), (11, true), (12, true), (13, true), (14, true), (15, false), (16, false), (17, false), (18, true)] (by kernel_rfl) (by kernel_rfl) (by kernel_rfl) (by kernel_rfl) (by kernel_rfl) (fun _ _ _ _ _ h => h) (heldC_drew H.out) ?_
                  have H := Lib.hid (heldC_drew H.out)
                  have IR := Lib.hid (IR.out.keep (below_drew' (Below.refl _ _)))
                  refine run_mov (v := .slice sv k cv) (show opAt (opsOf Try.f15 17) 0 = some (some 70, .move (.tmp 13), none) from by kernel_rfl) (by kernel_rfl) (by kernel_rfl) (by kernel_rfl) ?_
                  refine run_mov (v := .slice (some ⟨bx, ox, none⟩) m cx) (show opAt (opsOf Try.f15 17) 1 = some (some 71, .move (.tmp 8), none) from by kernel_rfl) (by kernel_rfl) (by kernel_rfl) (by kernel_rfl) ?_
                  refine run_mov (v := .int .i64 ((k : Int))) (show opAt (opsOf Try.f15 17) 2 = some (some 72, .move (.tmp 14), none) from by kernel_rfl) (by kernel_rfl) (by kernel_rfl) (by kernel_rfl) ?_
                  refine run_mov (v := .slice (some ⟨bx, ox, none⟩) m cx) (show opAt (opsOf Try.f15 17) 3 = some (some 73, .move (.tmp 8), none) from by kernel_rfl) (by kernel_rfl) (by kernel_rfl) (by kernel_rfl) ?_
                  refine run_len (b := (some ⟨bx, ox, none⟩)) (n := m) (c := cx) (show opAt (opsOf Try.f15 17) 4 = some (some 74, .call { callee := .builtin .len, args := [(.tmp 73)].toArray, argTypes := [51].toArray }, none) from by kernel_rfl) (by kernel_rfl) (by kernel_rfl) (by kernel_rfl) (by kernel_rfl) ?_
                  refine run_rem (k := .i64) (p := (k : Int)) (q := (m : Int)) (z := ((k % m : Nat) : Int)) (show opAt (opsOf Try.f15 17) 5 = some (some 75, .binOp .rem 3 (.tmp 72) (.tmp 74) 3, none) from by kernel_rfl) (by kernel_rfl) (by kernel_rfl) (by kernel_rfl) (by kernel_rfl) ⟨by omega, rfl⟩ ?_
                  refine run_idx1 (n := m) (c := cx) (b := bx) (off := ox) (k := (k % m)) (show opAt (opsOf Try.f15 17) 6 = some (some 76, .indexAddr 51 (.tmp 71) (.tmp 75), none) from by kernel_rfl) (by kernel_rfl) (by kernel_rfl) (by kernel_rfl) (by kernel_rfl) (Nat.mod_lt k hm0) Try.underlying51 (by kernel_rfl) infoInt ?_
                  refine runC_old (b := bx) (j := ox + (k % m)) (v := .int .i64 ((fx (k % m)))) load_int (show opAt (opsOf Try.f15 17) 7 = some (some 77, .load 3 (.tmp 76), none) from by kernel_rfl) (by kernel_rfl) (by kernel_rfl) (by kernel_rfl) hbx CX.out ?_
                  refine run_mov (v := .slice (some ⟨bY, oy, none⟩) n cy) (show opAt (opsOf Try.f15 17) 8 = some (some 78, .move (.tmp 10), none) from by kernel_rfl) (by kernel_rfl) (by kernel_rfl) (by kernel_rfl) ?_
                  refine run_mov (v := .int .i64 ((k : Int))) (show opAt (opsOf Try.f15 17) 9 = some (some 79, .move (.tmp 14), none) from by kernel_rfl) (by kernel_rfl) (by kernel_rfl) (by kernel_rfl) ?_
                  refine run_mov (v := .slice (some ⟨bY, oy, none⟩) n cy) (show opAt (opsOf Try.f15 17) 10 = some (some 80, .move (.tmp 10), none) from by kernel_rfl) (by kernel_rfl) (by kernel_rfl) (by kernel_rfl) ?_
                  refine run_len (b := (some ⟨bY, oy, none⟩)) (n := n) (c := cy) (show opAt (opsOf Try.f15 17) 11 = some (some 81, .call { callee := .builtin .len, args := [(.tmp 80)].toArray, argTypes := [51].toArray }, none) from by kernel_rfl) (by kernel_rfl) (by kernel_rfl) (by kernel_rfl) (by kernel_rfl) ?_
                  refine run_rem (k := .i64) (p := (k : Int)) (q := (n : Int)) (z := ((k % n : Nat) : Int)) (show opAt (opsOf Try.f15 17) 12 = some (some 82, .binOp .rem 3 (.tmp 79) (.tmp 81) 3, none) from by kernel_rfl) (by kernel_rfl) (by kernel_rfl) (by kernel_rfl) (by kernel_rfl) ⟨by omega, rfl⟩ ?_
                  refine run_idx1 (n := n) (c := cy) (b := bY) (off := oy) (k := (k % n)) (show opAt (opsOf Try.f15 17) 13 = some (some 83, .indexAddr 51 (.tmp 78) (.tmp 82), none) from by kernel_rfl) (by kernel_rfl) (by kernel_rfl) (by kernel_rfl) (by kernel_rfl) (Nat.mod_lt k hn0) Try.underlying51 (by kernel_rfl) infoInt ?_
                  refine runC_old (b := bY) (j := oy + (k % n)) (v := .int .i64 ((fy (k % n)))) load_int (show opAt (opsOf Try.f15 17) 14 = some (some 84, .load 3 (.tmp 83), none) from by kernel_rfl) (by kernel_rfl) (by kernel_rfl) (by kernel_rfl) hby CY.out ?_
                  refine run_call (args := [.int .i64 ((fx (k % m))), .int .i64 ((fy (k % n)))]) (show opAt (opsOf Try.f15 17) 15 = some (some 85, .call { callee := .value (.func 48), args := [(.tmp 77), (.tmp 84)].toArray, argTypes := [3, 3].toArray }, none) from by kernel_rfl) (by kernel_rfl) (by kernel_rfl) (by kernel_rfl) (by kernel_rfl) ?_
                  refine (CO.out _).mono ?_
                  rintro en rw1 ⟨rfl, rfl⟩
                  refine ⟨_, rfl, H.out, ?_⟩
                  refine tail_int (aL (fx (k % m)) (fy (k % n))) (show opAt (opsOf Try.f15 17) 16 = some (some 86, .buildSlice 51 1 #[(0, (.tmp 85))], none) from by kernel_rfl) (by kernel_rfl) (by kernel_rfl) (show opAt (opsOf Try.f15 17) 17 = some (some 87, .call { callee := .builtin .append, args := [(.tmp 70), (.tmp 86)].toArray, argTypes := [51, 51].toArray }, none) from by kernel_rfl) (by kernel_rfl) (fun _ => by kernel_rfl) (show opAt (opsOf Try.f15 17) 18 = some (some 13, .assign (.tmp 87), none) from by kernel_rfl) (by kernel_rfl) IR.out (by omega) ?_ (FE.out k).symm
                  rintro v' w2 hN
                  simp only [putAll, Act.put, List.setIfInBounds_toArray, List.set_cons_zero, List.set_cons_succ]
                  have NX := Lib.hid hN
                  clear hN
                  go_wp2
                  go_roundw
                  case rel => exact ⟨k + 1, by omega, by go_num, NX.out⟩
                  case measure => simp [intOf]; omega
                · obtain ⟨N, rfl⟩ : ∃ N : Nat, z = N := ⟨z.toNat, by omega⟩
                  obtain rfl : k = N := by omega
                  obtain ⟨sv, cv, rfl, hsi⟩ := ints_of_row IR.out.row
                  have SV := Lib.hid hsi
                  have BB := Lib.hid (below_then B5.out IR.out.below)
                  have KA := Lib.hid (blk_below IR.out.below KA.out)
                  have KB := Lib.hid (blk_below IR.out.below KB.out)
                  have KR := Lib.hid (blk_below IR.out.below KR.out)
                  rw [Int.toNat_natCast] at XX
                  have LC := Lib.hid (by
                    have h' := specLogVec sv k cv f wr.heap.size wr SV.out (Nat.le_refl _) (by omega)
                    rw [if_pos (by omega)] at h'
                    exact h' : Calls Try.prog 50 #[.slice sv k cv] wr (ResV 1 (vecOf 1 (itF (fun i => logI (f i)) k)) wr))
                  have NM := Lib.hid (fun w1 hb => NM.out k w1 hb)
                  obtain ⟨nms, hnms⟩ : ∃ l, namesL m n k names0 names1 = l := ⟨_, rfl⟩
                  rw [hnms] at NM XX
                  have hr4 := (Array.getElem?_eq_some_iff.1 KR.out).1
                  clear hsi hnms
                  go_wp2_with fail
                  with_reducible refine LC.out.mono ?_
                  rintro e w6 ⟨y, rfl, ho, hb⟩
                  obtain ⟨yk, ya1, yn1, ym1, ya2, yn2, ym2, ya3, yn3, ym3, ya4, yn4, ym4, ya5, yn5, ym5, yc, ye, rfl⟩ := ho.agg
                  have B6 := Lib.hid (below_then BB.out hb)
                  have KA := Lib.hid (blk_below hb KA.out)
                  have KB := Lib.hid (blk_below hb KB.out)
                  have KR := Lib.hid (blk_below hb KR.out)
                  have HO := Lib.hid ho
                  have hs6 := hb.size
                  clear ho hb
                  have hltA := (Array.getElem?_eq_some_iff.1 KA.out).1
                  have hltB := (Array.getElem?_eq_some_iff.1 KB.out).1
                  obtain ⟨ka0, ka1, ka2, ka3, ka4, ka5, ka6, ka7⟩ := vec8 KA.out
                  obtain ⟨kb0, kb1, kb2, kb3, kb4, kb5, kb6, kb7⟩ := vec8 KB.out
                  go_wp2_with fail
                  obtain ⟨w7, hw7⟩ : ∃ W, w6.alloc (.cells #[.int .i64 yk, .slice ya1 yn1 ym1, .slice ya2 yn2 ym2, .slice ya3 yn3 ym3, .slice ya4 yn4 ym4, .slice ya5 yn5 ym5, .int .i64 yc, .int .i64 ye] 31) = W := ⟨_, rfl⟩
                  have B7 := Lib.hid (show Below w.heap.size w w7 from hw7 ▸ B6.out.alloc B6.out.size _)
                  have KY := Lib.hid (show w7.heap[w6.heap.size]? = some (.cells #[.int .i64 yk, .slice ya1 yn1 ym1, .slice ya2 yn2 ym2, .slice ya3 yn3 ym3, .slice ya4 yn4 ym4, .slice ya5 yn5 ym5, .int .i64 yc, .int .i64 ye] 31 (0, 0)) from hw7 ▸ blk_new w6 _ rfl)
                  have KR := Lib.hid (show w7.heap[w.heap.size + 1 + 1]? = some (.cells #[.int .i64 0, .slice none 0 0, .slice none 0 0, .slice none 0 0, .slice none 0 0, .slice none 0 0, .int .i64 0, .int .i64 0] 31 (0, 0)) from hw7 ▸ blk_old KR.out)
                  have HO := Lib.hid (show Own 1 (vecOf 1 (itF (fun i => logI (f i)) k)) (.agg #[.int .i64 yk, .slice ya1 yn1 ym1, .slice ya2 yn2 ym2, .slice ya3 yn3 ym3, .slice ya4 yn4 ym4, .slice ya5 yn5 ym5, .int .i64 yc, .int .i64 ye]) wr.heap.size w6.heap.size w7 from hw7 ▸ HO.out.below (below1 w6 _) (Nat.le_refl _))
                  have S7 := Lib.hid (show w7.heap.size = w6.heap.size + 1 from hw7 ▸ (by simp))
                  rw [hw7]
                  clear ka0 ka1 ka2 ka3 ka4 ka5 ka6 ka7 kb0 kb1 kb2 kb3 kb4 kb5 kb6 kb7
                  clear hw7
                  with_reducible refine (NM.out w7 B7.out).mono ?_
                  rintro e w8 ⟨⟨v', rfl, na, nc, Fn, rfl, hT, hnd, hrg, hcap⟩, hb⟩
                  have KY := Lib.hid (blk_below hb KY.out)
                  have KR := Lib.hid (blk_below hb KR.out)
                  have HO := Lib.hid (HO.out.below hb (by have := S7.out; omega))
                  have B8 := Lib.hid (below_then B7.out hb)
                  have S78 := Lib.hid hb.size
                  have ky3 : w8.cell? ⟨w6.heap.size, 3, none⟩ = some (.slice ya3 yn3 ym3) := cellOf KY.out rfl
                  have fy3 : w8.frozen? ⟨w6.heap.size, 3, none⟩ = false := freeOf KY.out
                  have HT := Lib.hid hT
                  have HG := Lib.hid hrg
                  have HD := Lib.hid hnd
                  clear hb hT hrg hnd
                  go_upto_region 21 with (fail)
                  obtain ⟨w9, hw9⟩ : ∃ W, w8.setCell ⟨w6.heap.size, 3, none⟩ (.slice na nms.length nc) = W := ⟨_, rfl⟩
                  have KY9 := Lib.hid (show w9.heap[w6.heap.size]? = some (.cells #[.int .i64 yk, .slice ya1 yn1 ym1, .slice ya2 yn2 ym2, .slice na nms.length nc, .slice ya4 yn4 ym4, .slice ya5 yn5 ym5, .int .i64 yc, .int .i64 ye] 31 (0, 0)) from hw9 ▸ Joins.block_setCell KY.out _)
                  have KR9 := Lib.hid (show w9.heap[w.heap.size + 1 + 1]? = some (.cells #[.int .i64 0, .slice none 0 0, .slice none 0 0, .slice none 0 0, .slice none 0 0, .slice none 0 0, .int .i64 0, .int .i64 0] 31 (0, 0)) from hw9 ▸ (Below.heap_setCell _ _ _ _ (by show w.heap.size + 1 + 1 ≠ w6.heap.size; omega)).trans KR.out)
                  have B9 := Lib.hid (show Below w.heap.size w w9 from hw9 ▸ B8.out.setCell (p := ⟨w6.heap.size, 3, none⟩) (show w.heap.size ≤ w6.heap.size by omega) _)
                  have FIN := Lib.hid (show Own 1 (mkN 1 (itF (fun i => logI (f i)) k) nms) (.agg #[.int .i64 yk, .slice ya1 yn1 ym1, .slice ya2 yn2 ym2, .slice na nms.length nc, .slice ya4 yn4 ym4, .slice ya5 yn5 ym5, .int .i64 yc, .int .i64 ye]) wr.heap.size w9.heap.size w9 from by
                    have h8 : w9.heap.size = w8.heap.size := by rw [← hw9]; simp
                    have ho : Own 1 (vecOf 1 (itF (fun i => logI (f i)) k)) (.agg #[.int .i64 yk, .slice ya1 yn1 ym1, .slice ya2 yn2 ym2, .slice ya3 yn3 ym3, .slice ya4 yn4 ym4, .slice ya5 yn5 ym5, .int .i64 yc, .int .i64 ye]) wr.heap.size w6.heap.size w9 := hw9 ▸ HO.out.setOut (Nat.le_refl _)
                    have ht : OwnTxs w9 na nms Fn := hw9 ▸ HT.out.kept (fun g hg => Below.heap_setCell _ _ _ _ (by have := HG.out g hg; have := S7.out; show g ≠ w6.heap.size; omega))
                    rw [h8]
                    exact ho.setNames ht HD.out HG.out hcap (by have := S7.out; omega) (by have := S7.out; omega) (by have := S7.out; have := S78.out; omega))
                  rw [hw9]
                  clear hw9 ky3 fy3
                  obtain ⟨k0, k1, k2, k3, k4, k5, k6, k7⟩ := vec8 KY9.out
                  obtain ⟨z0, z1, z2, z3, z4, z5, z6, z7⟩ := vec8 KR9.out
                  obtain ⟨f0, f1, f2, f3, f4, f5, f6, f7⟩ := free8 KR9.out
                  go_wp2
                  rw [XX.out.1, XX.out.2]
                  exact vec_endS rfl rfl rfl rfl KR9.out ⟨_, rfl, (FIN.out.put8 hr4 _ _ _ _ _ _ _ _).wide (by omega) (by rw [put8_size]; exact Nat.le_refl _), put8_below B9.out (show w.heap.size ≤ w.heap.size + 1 + 1 by omega)⟩
            · have FE := Lib.hid (fun i => (FE.out i).trans (conn_or (by decide) _ _))
              go_wp2
              go_loopw [13, 14] (fun v i wr => ∃ k : Nat, (k : Int) ≤ z ∧ i = .int .i64 k ∧ IntR W4 wr f k v) (fun _ i _ => (z - intOf i).toNat)
              case atStart => exact ⟨0, by omega, rfl, ST.out⟩
              case round =>
                obtain ⟨k, hk, rfl, hir⟩ := hrel
                have IR := Lib.hid hir
                clear hir
                by_cases hlt : (k : Int) < z
                · obtain ⟨hm0, hn0⟩ := PZ.out (by omega)
                  obtain ⟨bx, ox, rfl, hbx, hcx⟩ := IX.out (k % m) (Nat.mod_lt k hm0)
                  obtain ⟨bY, oy, rfl, hby, hcy⟩ := IY.out (k % n) (Nat.mod_lt k hn0)
                  have CX := Lib.hid hcx
                  have CY := Lib.hid hcy
                  obtain ⟨sv, cv, rfl, _⟩ := ints_of_row IR.out.row
                  have CO := Lib.hid (fun W => specOrL (fx (k % m)) (fy (k % n)) W)
                  clear hcx hcy
                  have H := Lib.hid (show HeldC W4 wr [] from ⟨IR.out.below, (fun _ h => by cases h)⟩)
                  go_upto_region 18 with (fail)
                  refine run_region (ops := (opsOf Try.f15 18)) (S := fun w' => HeldC W4 w' ([])) [(0, true), (1, true), (2, true), (3, true), (4, true), (5, true), (6, true), (7, true), (8, true), (9, true), (10, true), (11, true), (12, true), (13, true), (14, true), (15, false), (16, false), (17, false), (18, true)] (by kernel_rfl) (by kernel_rfl) (by kernel_rfl) (by kernel_rfl) (by kernel_rfl) (fun _ _ _ _ _ h => h) (heldC_drew H.out) ?_
                  have H := Lib.hid (heldC_drew H.out)
                  have IR := Lib.hid (IR.out.keep (below_drew' (Below.refl _ _)))
                  refine run_mov (v := .slice sv k cv) (show opAt (opsOf Try.f15 18) 0 = some (some 88, .move (.tmp 13), none) from by kernel_rfl) (by kernel_rfl) (by kernel_rfl) (by kernel_rfl) ?_
                  refine run_mov (v := .slice (some ⟨bx, ox, none⟩) m cx) (show opAt (opsOf Try.f15 18) 1 = some (some 89, .move (.tmp 8), none) from by kernel_rfl) (by kernel_rfl) (by kernel_rfl) (by kernel_rfl) ?_
                  refine run_mov (v := .int .i64 ((k : Int))) (show opAt (opsOf Try.f15 18) 2 = some (some 90, .move (.tmp 14), none) from by kernel_rfl) (by kernel_rfl) (by kernel_rfl) (by kernel_rfl) ?_
                  refine run_mov (v := .slice (some ⟨bx, ox, none⟩) m cx) (show opAt (opsOf Try.f15 18) 3 = some (some 91, .move (.tmp 8), none) from by kernel_rfl) (by kernel_rfl) (by kernel_rfl) (by kernel_rfl) ?_
                  refine run_len (b := (some ⟨bx, ox, none⟩)) (n := m) (c := cx) (show opAt (opsOf Try.f15 18) 4 = some (some 92, .call { callee := .builtin .len, args := [(.tmp 91)].toArray, argTypes := [51].toArray }, none) from by kernel_rfl) (by kernel_rfl) (by kernel_rfl) (by kernel_rfl) (by kernel_rfl) ?_
                  refine run_rem (k := .i64) (p := (k : Int)) (q := (m : Int)) (z := ((k % m : Nat) : Int)) (show opAt (opsOf Try.f15 18) 5 = some (some 93, .binOp .rem 3 (.tmp 90) (.tmp 92) 3, none) from by kernel_rfl) (by kernel_rfl) (by kernel_rfl) (by kernel_rfl) (by kernel_rfl) ⟨by omega, rfl⟩ ?_
                  refine run_idx1 (n := m) (c := cx) (b := bx) (off := ox) (k := (k % m)) (show opAt (opsOf Try.f15 18) 6 = some (some 94, .indexAddr 51 (.tmp 89) (.tmp 93), none) from by kernel_rfl) (by kernel_rfl) (by kernel_rfl) (by kernel_rfl) (by kernel_rfl) (Nat.mod_lt k hm0) Try.underlying51 (by kernel_rfl) infoInt ?_
                  refine runC_old (b := bx) (j := ox + (k % m)) (v := .int .i64 ((fx (k % m)))) load_int (show opAt (opsOf Try.f15 18) 7 = some (some 95, .load 3 (.tmp 94), none) from by kernel_rfl) (by kernel_rfl) (by kernel_rfl) (by kernel_rfl) hbx CX.out ?_
                  refine run_mov (v := .slice (some ⟨bY, oy, none⟩) n cy) (show opAt (opsOf Try.f15 18) 8 = some (some 96, .move (.tmp 10), none) from by kernel_rfl) (by kernel_rfl) (by kernel_rfl) (by kernel_rfl) ?_
                  refine run_mov (v := .int .i64 ((k : Int))) (show opAt (opsOf Try.f15 18) 9 = some (some 97, .move (.tmp 14), none) from by kernel_rfl) (by kernel_rfl) (by kernel_rfl) (by kernel_rfl) ?_
                  refine run_mov (v := .slice (some ⟨bY, oy, none⟩) n cy) (show opAt (opsOf Try.f15 18) 10 = some (some 98, .move (.tmp 10), none) from by kernel_rfl) (by kernel_rfl) (by kernel_rfl) (by kernel_rfl) ?_
                  refine run_len (b := (some ⟨bY, oy, none⟩)) (n := n) (c := cy) (show opAt (opsOf Try.f15 18) 11 = some (some 99, .call { callee := .builtin .len, args := [(.tmp 98)].toArray, argTypes := [51].toArray }, none) from by kernel_rfl) (by kernel_rfl) (by kernel_rfl) (by kernel_rfl) (by kernel_rfl) ?_
                  refine run_rem (k := .i64) (p := (k : Int)) (q := (n : Int)) (z := ((k % n : Nat) : Int)) (show opAt (opsOf Try.f15 18) 12 = some (some 100, .binOp .rem 3 (.tmp 97) (.tmp 99) 3, none) from by kernel_rfl) (by kernel_rfl) (by kernel_rfl) (by kernel_rfl) (by kernel_rfl) ⟨by omega, rfl⟩ ?_
                  refine run_idx1 (n := n) (c := cy) (b := bY) (off := oy) (k := (k % n)) (show opAt (opsOf Try.f15 18) 13 = some (some 101, .indexAddr 51 (.tmp 96) (.tmp 100), none) from by kernel_rfl) (by kernel_rfl) (by kernel_rfl) (by kernel_rfl) (by kernel_rfl) (Nat.mod_lt k hn0) Try.underlying51 (by kernel_rfl) infoInt ?_
                  refine runC_old (b := bY) (j := oy + (k % n)) (v := .int .i64 ((fy (k % n)))) load_int (show opAt (opsOf Try.f15 18) 14 = some (some 102, .load 3 (.tmp 101), none) from by kernel_rfl) (by kernel_rfl) (by kernel_rfl) (by kernel_rfl) hby CY.out ?_
                  refine run_call (args := [.int .i64 ((fx (k % m))), .int .i64 ((fy (k % n)))]) (show opAt (opsOf Try.f15 18) 15 = some (some 103, .call { callee := .value (.func 49), args := [(.tmp 95), (.tmp 102)].toArray, argTypes := [3, 3].toArray }, none) from by kernel_rfl) (by kernel_rfl) (by kernel_rfl) (by kernel_rfl) (by kernel_rfl) ?_
                  refine (CO.out _).mono ?_
                  rintro en rw1 ⟨rfl, rfl⟩
                  refine ⟨_, rfl, H.out, ?_⟩
                  refine tail_int (oL (fx (k % m)) (fy (k % n))) (show opAt (opsOf Try.f15 18) 16 = some (some 104, .buildSlice 51 1 #[(0, (.tmp 103))], none) from by kernel_rfl) (by kernel_rfl) (by kernel_rfl) (show opAt (opsOf Try.f15 18) 17 = some (some 105, .call { callee := .builtin .append, args := [(.tmp 88), (.tmp 104)].toArray, argTypes := [51, 51].toArray }, none) from by kernel_rfl) (by kernel_rfl) (fun _ => by kernel_rfl) (show opAt (opsOf Try.f15 18) 18 = some (some 13, .assign (.tmp 105), none) from by kernel_rfl) (by kernel_rfl) IR.out (by omega) ?_ (FE.out k).symm
                  rintro v' w2 hN
                  simp only [putAll, Act.put, List.setIfInBounds_toArray, List.set_cons_zero, List.set_cons_succ]
                  have NX := Lib.hid hN
                  clear hN
                  go_wp2
                  go_roundw
                  case rel => exact ⟨k + 1, by omega, by go_num, NX.out⟩
                  case measure => simp [intOf]; omega
                · obtain ⟨N, rfl⟩ : ∃ N : Nat, z = N := ⟨z.toNat, by omega⟩
                  obtain rfl : k = N := by omega
                  obtain ⟨sv, cv, rfl, hsi⟩ := ints_of_row IR.out.row
                  have SV := Lib.hid hsi
                  have BB := Lib.hid (below_then B5.out IR.out.below)
                  have KA := Lib.hid (blk_below IR.out.below KA.out)
                  have KB := Lib.hid (blk_below IR.out.below KB.out)
                  have KR := Lib.hid (blk_below IR.out.below KR.out)
                  rw [Int.toNat_natCast] at XX
                  have LC := Lib.hid (by
                    have h' := specLogVec sv k cv f wr.heap.size wr SV.out (Nat.le_refl _) (by omega)
                    rw [if_pos (by omega)] at h'
                    exact h' : Calls Try.prog 50 #[.slice sv k cv] wr (ResV 1 (vecOf 1 (itF (fun i => logI (f i)) k)) wr))
                  have NM := Lib.hid (fun w1 hb => NM.out k w1 hb)
                  obtain ⟨nms, hnms⟩ : ∃ l, namesL m n k names0 names1 = l := ⟨_, rfl⟩
                  rw [hnms] at NM XX
                  have hr4 := (Array.getElem?_eq_some_iff.1 KR.out).1
                  clear hsi hnms
                  go_wp2_with fail
                  with_reducible refine LC.out.mono ?_
                  rintro e w6 ⟨y, rfl, ho, hb⟩
                  obtain ⟨yk, ya1, yn1, ym1, ya2, yn2, ym2, ya3, yn3, ym3, ya4, yn4, ym4, ya5, yn5, ym5, yc, ye, rfl⟩ := ho.agg
                  have B6 := Lib.hid (below_then BB.out hb)
                  have KA := Lib.hid (blk_below hb KA.out)
                  have KB := Lib.hid (blk_below hb KB.out)
                  have KR := Lib.hid (blk_below hb KR.out)
                  have HO := Lib.hid ho
                  have hs6 := hb.size
                  clear ho hb
                  have hltA := (Array.getElem?_eq_some_iff.1 KA.out).1
                  have hltB := (Array.getElem?_eq_some_iff.1 KB.out).1
                  obtain ⟨ka0, ka1, ka2, ka3, ka4, ka5, ka6, ka7⟩ := vec8 KA.out
                  obtain ⟨kb0, kb1, kb2, kb3, kb4, kb5, kb6, kb7⟩ := vec8 KB.out
                  go_wp2_with fail
                  obtain ⟨w7, hw7⟩ : ∃ W, w6.alloc (.cells #[.int .i64 yk, .slice ya1 yn1 ym1, .slice ya2 yn2 ym2, .slice ya3 yn3 ym3, .slice ya4 yn4 ym4, .slice ya5 yn5 ym5, .int .i64 yc, .int .i64 ye] 31) = W := ⟨_, rfl⟩
                  have B7 := Lib.hid (show Below w.heap.size w w7 from hw7 ▸ B6.out.alloc B6.out.size _)
                  have KY := Lib.hid (show w7.heap[w6.heap.size]? = some (.cells #[.int .i64 yk, .slice ya1 yn1 ym1, .slice ya2 yn2 ym2, .slice ya3 yn3 ym3, .slice ya4 yn4 ym4, .slice ya5 yn5 ym5, .int .i64 yc, .int .i64 ye] 31 (0, 0)) from hw7 ▸ blk_new w6 _ rfl)
                  have KR := Lib.hid (show w7.heap[w.heap.size + 1 + 1]? = some (.cells #[.int .i64 0, .slice none 0 0, .slice none 0 0, .slice none 0 0, .slice none 0 0, .slice none 0 0, .int .i64 0, .int .i64 0] 31 (0, 0)) from hw7 ▸ blk_old KR.out)
                  have HO := Lib.hid (show Own 1 (vecOf 1 (itF (fun i => logI (f i)) k)) (.agg #[.int .i64 yk, .slice ya1 yn1 ym1, .slice ya2 yn2 ym2, .slice ya3 yn3 ym3, .slice ya4 yn4 ym4, .slice ya5 yn5 ym5, .int .i64 yc, .int .i64 ye]) wr.heap.size w6.heap.size w7 from hw7 ▸ HO.out.below (below1 w6 _) (Nat.le_refl _))
                  have S7 := Lib.hid (show w7.heap.size = w6.heap.size + 1 from hw7 ▸ (by simp))
                  rw [hw7]
                  clear ka0 ka1 ka2 ka3 ka4 ka5 ka6 ka7 kb0 kb1 kb2 kb3 kb4 kb5 kb6 kb7
                  clear hw7
                  with_reducible refine (NM.out w7 B7.out).mono ?_
                  rintro e w8 ⟨⟨v', rfl, na, nc, Fn, rfl, hT, hnd, hrg, hcap⟩, hb⟩
                  have KY := Lib.hid (blk_below hb KY.out)
                  have KR := Lib.hid (blk_below hb KR.out)
                  have HO := Lib.hid (HO.out.below hb (by have := S7.out; omega))
                  have B8 := Lib.hid (below_then B7.out hb)
                  have S78 := Lib.hid hb.size
                  have ky3 : w8.cell? ⟨w6.heap.size, 3, none⟩ = some (.slice ya3 yn3 ym3) := cellOf KY.out rfl
                  have fy3 : w8.frozen? ⟨w6.heap.size, 3, none⟩ = false := freeOf KY.out
                  have HT := Lib.hid hT
                  have HG := Lib.hid hrg
                  have HD := Lib.hid hnd
                  clear hb hT hrg hnd
                  go_upto_region 21 with (fail)
                  obtain ⟨w9, hw9⟩ : ∃ W, w8.setCell ⟨w6.heap.size, 3, none⟩ (.slice na nms.length nc) = W := ⟨_, rfl⟩
                  have KY9 := Lib.hid (show w9.heap[w6.heap.size]? = some (.cells #[.int .i64 yk, .slice ya1 yn1 ym1, .slice ya2 yn2 ym2, .slice na nms.length nc, .slice ya4 yn4 ym4, .slice ya5 yn5 ym5, .int .i64 yc, .int .i64 ye] 31 (0, 0)) from hw9 ▸ Joins.block_setCell KY.out _)
                  have KR9 := Lib.hid (show w9.heap[w.heap.size + 1 + 1]? = some (.cells #[.int .i64 0, .slice none 0 0, .slice none 0 0, .slice none 0 0, .slice none 0 0, .slice none 0 0, .int .i64 0, .int .i64 0] 31 (0, 0)) from hw9 ▸ (Below.heap_setCell _ _ _ _ (by show w.heap.size + 1 + 1 ≠ w6.heap.size; omega)).trans KR.out)
                  have B9 := Lib.hid (show Below w.heap.size w w9 from hw9 ▸ B8.out.setCell (p := ⟨w6.heap.size, 3, none⟩) (show w.heap.size ≤ w6.heap.size by omega) _)
                  have FIN := Lib.hid (show Own 1 (mkN 1 (itF (fun i => logI (f i)) k) nms) (.agg #[.int .i64 yk, .slice ya1 yn1 ym1, .slice ya2 yn2 ym2, .slice na nms.length nc, .slice ya4 yn4 ym4, .slice ya5 yn5 ym5, .int .i64 yc, .int .i64 ye]) wr.heap.size w9.heap.size w9 from by
                    have h8 : w9.heap.size = w8.heap.size := by rw [← hw9]; simp
                    have ho : Own 1 (vecOf 1 (itF (fun i => logI (f i)) k)) (.agg #[.int .i64 yk, .slice ya1 yn1 ym1, .slice ya2 yn2 ym2, .slice ya3 yn3 ym3, .slice ya4 yn4 ym4, .slice ya5 yn5 ym5, .int .i64 yc, .int .i64 ye]) wr.heap.size w6.heap.size w9 := hw9 ▸ HO.out.setOut (Nat.le_refl _)
                    have ht : OwnTxs w9 na nms Fn := hw9 ▸ HT.out.kept (fun g hg => Below.heap_setCell _ _ _ _ (by have := HG.out g hg; have := S7.out; show g ≠ w6.heap.size; omega))
                    rw [h8]
                    exact ho.setNames ht HD.out HG.out hcap (by have := S7.out; omega) (by have := S7.out; omega) (by have := S7.out; have := S78.out; omega))
                  rw [hw9]
                  clear hw9 ky3 fy3
                  obtain ⟨k0, k1, k2, k3, k4, k5, k6, k7⟩ := vec8 KY9.out
                  obtain ⟨z0, z1, z2, z3, z4, z5, z6, z7⟩ := vec8 KR9.out
                  obtain ⟨f0, f1, f2, f3, f4, f5, f6, f7⟩ := free8 KR9.out
                  go_wp2
                  rw [XX.out.1, XX.out.2]
                  exact vec_endS rfl rfl rfl rfl KR9.out ⟨_, rfl, (FIN.out.put8 hr4 _ _ _ _ _ _ _ _).wide (by omega) (by rw [put8_size]; exact Nat.le_refl _), put8_below B9.out (show w.heap.size ≤ w.heap.size + 1 + 1 by omega)⟩
          · have XX := Lib.hid (lgc_len QQ.out hop hc (by rw [HN'.out]; exact hzn))
            rcases hop with rfl | rfl
            · clear hc
              obtain ⟨z0, z1, z2, z3, z4, z5, z6, z7⟩ := vec8 KR.out
              obtain ⟨f0, f1, f2, f3, f4, f5, f6, f7⟩ := free8 KR.out
              go_wp2
              rw [XX.out.1, XX.out.2]
              exact vec_endS rfl rfl rfl rfl KR.out (zeroS _ w _ (put8_below B5.out (show w.heap.size ≤ w.heap.size + 1 + 1 by omega)))
            · clear hc
              obtain ⟨z0, z1, z2, z3, z4, z5, z6, z7⟩ := vec8 KR.out
              obtain ⟨f0, f1, f2, f3, f4, f5, f6, f7⟩ := free8 KR.out
              go_wp2
              rw [XX.out.1, XX.out.2]
              exact vec_endS rfl rfl rfl rfl KR.out (zeroS _ w _ (put8_below B5.out (show w.heap.size ≤ w.heap.size + 1 + 1 by omega)))
        · have XX := Lib.hid (lgc_non QQ.out hop hc)
          by_cases ca : Counts VA
          · have cb : ¬ Counts VB := fun h => hc ⟨ca, h⟩
            rw [bB_yes ca, bB_no cb]
            clear hc ca cb
            rcases hop with rfl | rfl
            · obtain ⟨z0, z1, z2, z3, z4, z5, z6, z7⟩ := vec8 KR.out
              obtain ⟨f0, f1, f2, f3, f4, f5, f6, f7⟩ := free8 KR.out
              go_wp2
              rw [XX.out.1, XX.out.2]
              exact vec_endS rfl rfl rfl rfl KR.out (zeroS _ w _ (put8_below B5.out (show w.heap.size ≤ w.heap.size + 1 + 1 by omega)))
            · obtain ⟨z0, z1, z2, z3, z4, z5, z6, z7⟩ := vec8 KR.out
              obtain ⟨f0, f1, f2, f3, f4, f5, f6, f7⟩ := free8 KR.out
              go_wp2
              rw [XX.out.1, XX.out.2]
              exact vec_endS rfl rfl rfl rfl KR.out (zeroS _ w _ (put8_below B5.out (show w.heap.size ≤ w.heap.size + 1 + 1 by omega)))
          · rw [bB_no ca]
            clear hc ca
            rcases hop with rfl | rfl
            · obtain ⟨z0, z1, z2, z3, z4, z5, z6, z7⟩ := vec8 KR.out
              obtain ⟨f0, f1, f2, f3, f4, f5, f6, f7⟩ := free8 KR.out
              go_wp2
              rw [XX.out.1, XX.out.2]
              exact vec_endS rfl rfl rfl rfl KR.out (zeroS _ w _ (put8_below B5.out (show w.heap.size ≤ w.heap.size + 1 + 1 by omega)))
            · obtain ⟨z0, z1, z2, z3, z4, z5, z6, z7⟩ := vec8 KR.out
              obtain ⟨f0, f1, f2, f3, f4, f5, f6, f7⟩ := free8 KR.out
              go_wp2
              rw [XX.out.1, XX.out.2]
              exact vec_endS rfl rfl rfl rfl KR.out (zeroS _ w _ (put8_below B5.out (show w.heap.size ≤ w.heap.size + 1 + 1 by omega)))
      · have XX := Lib.hid (lgc_unk QQ.out hop)
        have hop1 : ¬ op = ⟨#[38]⟩ := fun h => hop (.inl h)
        have hop2 : ¬ op = ⟨#[124]⟩ := fun h => hop (.inr h)
        have hop3 : (op.toList == [38]) = false := by have h := str_ne (y := ⟨#[38]⟩) hop1; rw [ByteArray.toList_eq ⟨#[38]⟩] at h; exact h
        have hop4 : (op.toList == [124]) = false := by have h := str_ne (y := ⟨#[124]⟩) hop2; rw [ByteArray.toList_eq ⟨#[124]⟩] at h; exact h
        clear hop hop1 hop2
        obtain ⟨z0, z1, z2, z3, z4, z5, z6, z7⟩ := vec8 KR.out
        obtain ⟨f0, f1, f2, f3, f4, f5, f6, f7⟩ := free8 KR.out
        go_wp2
        rw [XX.out.1, XX.out.2]
        exact vec_endS rfl rfl rfl rfl KR.out (zeroS _ w _ (put8_below B5.out (show w.heap.size ≤ w.heap.size + 1 + 1 by omega)))
    · rw [bB_no qb]
      have XX := Lib.hid (lgc_bad (op := op) (fun h : ValidV VA ∧ ValidV VB => qb h.2))
      clear qa qb
      go_wp2_with fail
      with_reducible refine (BD.out _).mono ?_
      rintro e w9 ⟨rfl, b⟩
      have B9 := Lib.hid (below_then B3.out b)
      have K0 := Lib.hid (blk_below b KR.out)
      clear b
      obtain ⟨z0, z1, z2, z3, z4, z5, z6, z7⟩ := vec8 K0.out
      obtain ⟨f0, f1, f2, f3, f4, f5, f6, f7⟩ := free8 K0.out
      go_wp2
      rw [XX.out.1, XX.out.2]
      exact vec_endS rfl rfl rfl rfl K0.out (zeroS _ w _ (put8_below B9.out (show w.heap.size ≤ w.heap.size + 1 + 1 by omega)))
  · rw [bB_no qa]
    have XX := Lib.hid (lgc_bad (op := op) (fun h : ValidV VA ∧ ValidV VB => qa h.1))
    clear qa
    go_wp2_with fail
    with_reducible refine (BD.out _).mono ?_
    rintro e w9 ⟨rfl, b⟩
    have B9 := Lib.hid (below_then B2.out b)
    have K0 := Lib.hid (blk_below b KR.out)
    clear b
    obtain ⟨z0, z1, z2, z3, z4, z5, z6, z7⟩ := vec8 K0.out
    obtain ⟨f0, f1, f2, f3, f4, f5, f6, f7⟩ := free8 K0.out
    go_wp2
    rw [XX.out.1, XX.out.2]
    exact vec_endS rfl rfl rfl rfl K0.out (zeroS _ w _ (put8_below B9.out (show w.heap.size ≤ w.heap.size + 1 + 1 by omega)))
end Go.Proofs.Ytlnjjjoeblopeaa

/- AllOf of the reference. -/
namespace Go.Proofs.Ytlnjjjoeblopeaa
open Go.RowKit
set_option maxRecDepth 100000
set_option linter.unusedVariables false

theorem IntsAt.below2 {B : Nat} {w w1 : World} {a : Option Addr} {n : Nat} {f : Nat → Int} (h : IntsAt B w a n f) (hb : Below B w w1) : IntsAt B w1 a n f := by
  intro i hi
  obtain ⟨b, off, e, hlt, hc⟩ := h i hi
  exact ⟨b, off, e, hlt, (hb.cell (p := ⟨b, off + i, none⟩) hlt).trans hc⟩
theorem keep_truth {drop : Bool} {x : It} (h : truthI x = 2) : keepI drop x = !drop := by
  have hd : x.d = 0 := by
    unfold truthI at h
    by_cases hd : x.d = 0
    · exact hd
    · rw [if_neg hd] at h; split at h <;> omega
  unfold keepI; simp [hd]
theorem keep_true {drop : Bool} {x : It} (h : ¬ truthI x = 2) : keepI drop x = true := by
  have hd : ¬ x.d = 0 := fun hd => h (by unfold truthI; rw [if_pos hd])
  unfold keepI; simp [hd]
theorem IntR.nil {w w1 : World} {f : Nat → Int} (hb : Below w.heap.size w w1) : IntR w (w1.alloc (.cells #[] 3)) f 0 (.slice (Option.some ⟨w1.heap.size, 0, none⟩) 0 0) :=
  ⟨⟨rfl, .inr ⟨w1.heap.size, 0, #[], rfl, hb.size, blk_new w1 _ rfl, Nat.le_refl _, Nat.zero_le _, rfl, rfl⟩⟩, hb.alloc hb.size _⟩
/-- One more truth. -/
theorem IntR.push {w wr w1 : World} {l l' : List It} {x : It} {t : Int} {v v' : Value} (h : IntR w wr (tF l) l.length v) (ht : truthI x = t) (hl : l ++ [x] = l') (hn : (tF l' l.length = t) → IntR w w1 (tF l') (l.length + 1) v') : IntR w w1 (tF l') l'.length v' := by
  subst hl
  have := hn (by rw [tF_last, ht])
  rw [show (l ++ [x]).length = l.length + 1 by simp]
  exact this
set_option maxHeartbeats 4000000 in
theorem specAllOf (d : Nat) (v : Vec) (val : Value) (drop some : Bool) (lo hi : Nat) (w : World) (hv : VecAt lo hi w d v val) (hhi : hi ≤ w.heap.size) (hsm : Small d v) :
    Calls Try.prog 35 #[val, .bool drop, .bool some] w (ResVS 1 (smyW 1 (fun l => logI (allG some l)) drop v) (smyS nonLogB v) w) := by
  have C1 := Lib.hid (fun (w1 : World) (hb : Below w.heap.size w w1) => specIsVector d v val lo hi w1 (hv.below hb hhi) (Nat.le_trans hhi hb.size) hsm)
  obtain ⟨VV, hVV⟩ : ∃ V, v = V := ⟨_, rfl⟩
  rw [hVV] at C1 ⊢
  obtain ⟨kk, items, parts, names, cls, levels, code, env⟩ := v
  obtain ⟨d', ai, ci, ap, cp, an, cn, ac, cc, al, cl, ed, rfl, hI, hN, hC, hL, hP⟩ := vecAt_open hv
  have li : items.length ≤ 1048576 := by subst ed; exact hsm.1
  have XC : Counts VV ↔ (kk ≤ 2 ∧ levels.length = 0) := by rw [← hVV]; exact Iff.rfl
  have XE := Lib.hid (show itemsV VV = items by rw [← hVV]; rfl)
  have XN := Lib.hid (fun (h : ValidV VV) (hc : Counts VV) (i : Nat) (hi : i < items.length) => (by rw [← hVV] at h hc; exact num_at h hc hi : NumIt (items.getD i noI)))
  have XL := Lib.hid (fun (h : ValidV VV) (hc : Counts VV) => (by rw [← hVV] at h hc; exact count_len h hc : items.length ≤ 40))
  have SL := Lib.hid (fun (w1 : World) (hb : Below w.heap.size w w1) (hk : kk ≤ 2) (hl : levels.length = 0) (hit : ∀ i, i < items.length → NumIt (items.getD i noI)) => specLogY kk items ai ap an ac al ci parts.length cp names.length cn cls.length cc levels.length cl code env lo hi w1 (hI.below hb hhi) (Nat.le_trans hhi hb.size) hk hl li hit)
  have SN := Lib.hid (fun (W : World) (h : ¬ (kk ≤ 2 ∧ levels.length = 0)) => specLogN kk ai ap an ac al items.length ci parts.length cp names.length cn cls.length cc levels.length cl code env W h)
  have BD := Lib.hid (fun W => specBad W)
  clear hv hI hN hC hL hP hsm ed hVV
  go_enter Try.func35, Try.ntmps35
  go_wp2_with fail
  obtain ⟨w1, hw1⟩ : ∃ W, (w.alloc (.cells #[.int .i64 kk, .slice ai items.length ci, .slice ap parts.length cp, .slice an names.length cn, .slice ac cls.length cc, .slice al levels.length cl, .int .i64 code, .int .i64 env] 31)).alloc (.cells #[.int .i64 0, .slice none 0 0, .slice none 0 0, .slice none 0 0, .slice none 0 0, .slice none 0 0, .int .i64 0, .int .i64 0] 31) = W := ⟨_, rfl⟩
  have hsz : (w.alloc (.cells #[.int .i64 kk, .slice ai items.length ci, .slice ap parts.length cp, .slice an names.length cn, .slice ac cls.length cc, .slice al levels.length cl, .int .i64 code, .int .i64 env] 31)).heap.size = w.heap.size + 1 := by simp
  have B1 := Lib.hid (show Below w.heap.size w w1 from hw1 ▸ (below1 w _).alloc (by simp) _)
  have KA := Lib.hid (show w1.heap[w.heap.size]? = Option.some (.cells #[.int .i64 kk, .slice ai items.length ci, .slice ap parts.length cp, .slice an names.length cn, .slice ac cls.length cc, .slice al levels.length cl, .int .i64 code, .int .i64 env] 31 (0, 0)) from hw1 ▸ blk_old (blk_new w _ rfl))
  have KR := Lib.hid (show w1.heap[w.heap.size + 1]? = Option.some (.cells #[.int .i64 0, .slice none 0 0, .slice none 0 0, .slice none 0 0, .slice none 0 0, .slice none 0 0, .int .i64 0, .int .i64 0] 31 (0, 0)) from hw1 ▸ hsz ▸ blk_new (w.alloc (.cells #[.int .i64 kk, .slice ai items.length ci, .slice ap parts.length cp, .slice an names.length cn, .slice ac cls.length cc, .slice al levels.length cl, .int .i64 code, .int .i64 env] 31)) (.cells #[.int .i64 0, .slice none 0 0, .slice none 0 0, .slice none 0 0, .slice none 0 0, .slice none 0 0, .int .i64 0, .int .i64 0] 31) rfl)
  rw [hw1]
  clear hw1 hsz
  with_reducible refine (C1.out _ B1.out).mono ?_
  rintro e w2 ⟨rfl, b⟩
  have B2 := Lib.hid (below_then B1.out b)
  have KA := Lib.hid (blk_below b KA.out)
  have KR := Lib.hid (blk_below b KR.out)
  clear b
  by_cases q : ValidV VV
  · rw [bB_yes q]
    obtain ⟨k0, k1, k2, k3, k4, k5, k6, k7⟩ := vec8 KA.out
    by_cases hc : Counts VV
    · have hs1 := Lib.hid (smy_yes q hc (fun _ => noI) drop nonLogB).2.1
      have EL := Lib.hid (show smyL drop VV = pickL drop items by rw [(smy_yes q hc (fun _ => noI) drop nonLogB).1, XE.out])
      have HC := XC.1 hc
      have hl := XL.out q hc
      have SLO := Lib.hid (SL.out _ B2.out HC.1 HC.2 (XN.out q hc))
      clear q hc HC XC XN XL SL SN
      go_wp2_with fail
      with_reducible refine SLO.out.mono ?_
      rintro e w3 ⟨sa, c, rfl, hrow, b⟩
      have B3 := Lib.hid (below_then B2.out b)
      have KR := Lib.hid (blk_below b KR.out)
      obtain ⟨sa', c', he, hints⟩ := ints_of_row hrow
      simp only [Value.slice.injEq] at he
      obtain ⟨rfl, _, rfl⟩ := he
      have IA := Lib.hid hints
      clear b hrow hints k0 k1 k2 k3 k4 k5 k6 k7 SLO
      have TY := Lib.hid (fun k (hk : k < items.length) h => pickL_yes (drop := drop) hk h)
      have TS := Lib.hid (fun k (hk : k < items.length) h => pickL_skip (drop := drop) hk h)
      have TF := Lib.hid (show pickL drop (items.take items.length) = pickL drop items by rw [List.take_length])
      have PL := Lib.hid (pickL_len drop items)
      have ST := Lib.hid (show IntR w3 (w3.alloc (.cells #[] 3)) (tF (pickL drop (items.take 0))) (pickL drop (items.take 0)).length (.slice (Option.some ⟨w3.heap.size, 0, none⟩) 0 0) from by rw [pickL_zero]; exact IntR.nil (Below.refl _ _))
      obtain ⟨n, hn'⟩ : ∃ n, items.length = n := ⟨_, rfl⟩
      rw [hn'] at IA TY TS TF hl li PL ⊢
      clear hn'
      obtain ⟨i0, hi0, hz0, hz1, hz2⟩ := info_parts infoInt
      go_wp2
      go_loopw [10, 11] (fun v i wr => ∃ k : Nat, k ≤ n ∧ i = .int .i64 k ∧ IntR w3 wr (tF (pickL drop (items.take k))) (pickL drop (items.take k)).length v) (fun _ i _ => n - (intOf i).toNat)
      case atStart => exact ⟨0, Nat.zero_le _, rfl, ST.out⟩
      case round =>
        obtain ⟨k, hk, rfl, hil⟩ := hrel
        have IL := Lib.hid hil
        clear hil
        by_cases hlt : k < n
        · obtain ⟨ba, off, rfl, hbB, c0⟩ := (IA.out.below2 IL.out.below) k hlt
          have hbw : ba < wr.heap.size := Nat.lt_of_lt_of_le hbB IL.out.below.size
          obtain ⟨x, hx⟩ : ∃ x, items.getD k noI = x := ⟨_, rfl⟩
          simp only [hx] at c0
          obtain ⟨t, ht⟩ : ∃ t, truthI x = t := ⟨_, rfl⟩
          rw [ht] at c0
          obtain ⟨m, hm⟩ : ∃ m, (pickL drop (items.take k)).length = m := ⟨_, rfl⟩
          have hmk : m ≤ k := hm ▸ pickL_kept drop items k
          obtain ⟨h, hh⟩ : ∃ h : Nat → Int, tF (pickL drop (items.take (k + 1))) = h := ⟨_, rfl⟩
          by_cases hp : keepI drop x = true
          · have hTY := TY.out k hlt (by rw [hx]; exact hp)
            rw [hx] at hTY
            have ILH := IL.out.congr (g := h) (fun i hi => by rw [← hh, ← hTY]; exact tF_app _ x i hi)
            have NX := Lib.hid (fun (w1 : World) (v' : Value) (hn : (t = h m) → IntR w3 w1 h (m + 1) v') => (by
              have := IL.out.push (w1 := w1) (v' := v') ht hTY (fun e => by rw [hh, hm]; exact hn (by rw [← e, hh, hm]))
              exact this : IntR w3 w1 (tF (pickL drop (items.take (k + 1)))) (pickL drop (items.take (k + 1))).length v'))
            rw [hm] at ILH
            have IL2 := Lib.hid ILH
            have OR := Lib.hid (IL2.out.row.alloc (.cells #[.int .i64 t] 3))
            have h2 : drop = false ∨ ¬ t = 2 := by
              cases drop with
              | false => exact .inl rfl
              | true => exact .inr (fun e => by rw [keep_truth (ht.trans e)] at hp; cases hp)
            clear hx ht hm hh hTY ILH
            rcases h2 with rfl | h2
            · by_cases h3 : t = 2
              · subst h3
                go_wp2_with (at_builtin; refine wpList_append_own _ rfl _ _ 51 rfl w3.heap.size 3 i0 (.int .i64 0) 1 8 Try.underlying51 hi0 hz0 hz1 hz2 rfl (by decide) _ m (intsF h m) rfl OR.out ⟨wr.heap.size, 0, none⟩ 1 1 [.int .i64 2] rfl rfl ?c1 ?c2 ?c3 ?c4 ?c5 ?_)
                case c1 =>
                  intro j u hj
                  obtain rfl : j = 0 := by have := (List.getElem?_eq_some_iff.1 hj).1; simpa using this
                  obtain rfl : Value.int .i64 2 = u := by simpa using hj
                  rw [addr_add]
                  exact cellOf (blk_new wr _ rfl) rfl
                case c2 => intro u hu; obtain rfl := List.mem_singleton.1 hu; rfl
                case c3 => unfold maxLen; omega
                case c4 => omega
                case c5 => have := IL2.out.below.size; simp; omega
                intro v' w1 hown' hgrow _
                have IN := Lib.hid (NX.out w1 v' (IL2.out.next hgrow hown'))
                clear hown' hgrow
                go_wp2
                go_roundw
                case rel => exact ⟨k + 1, by omega, by go_num, IN.out⟩
                case measure => simp [intOf]; omega
              ·
                go_wp2_with (at_builtin; refine wpList_append_own _ rfl _ _ 51 rfl w3.heap.size 3 i0 (.int .i64 0) 1 8 Try.underlying51 hi0 hz0 hz1 hz2 rfl (by decide) _ m (intsF h m) rfl OR.out ⟨wr.heap.size, 0, none⟩ 1 1 [.int .i64 t] rfl rfl ?c1 ?c2 ?c3 ?c4 ?c5 ?_)
                case c1 =>
                  intro j u hj
                  obtain rfl : j = 0 := by have := (List.getElem?_eq_some_iff.1 hj).1; simpa using this
                  obtain rfl : Value.int .i64 t = u := by simpa using hj
                  rw [addr_add]
                  exact cellOf (blk_new wr _ rfl) rfl
                case c2 => intro u hu; obtain rfl := List.mem_singleton.1 hu; rfl
                case c3 => unfold maxLen; omega
                case c4 => omega
                case c5 => have := IL2.out.below.size; simp; omega
                intro v' w1 hown' hgrow _
                have IN := Lib.hid (NX.out w1 v' (IL2.out.next hgrow hown'))
                clear hown' hgrow
                go_wp2
                go_roundw
                case rel => exact ⟨k + 1, by omega, by go_num, IN.out⟩
                case measure => simp [intOf]; omega
            ·
              go_wp2_with (at_builtin; refine wpList_append_own _ rfl _ _ 51 rfl w3.heap.size 3 i0 (.int .i64 0) 1 8 Try.underlying51 hi0 hz0 hz1 hz2 rfl (by decide) _ m (intsF h m) rfl OR.out ⟨wr.heap.size, 0, none⟩ 1 1 [.int .i64 t] rfl rfl ?c1 ?c2 ?c3 ?c4 ?c5 ?_)
              case c1 =>
                intro j u hj
                obtain rfl : j = 0 := by have := (List.getElem?_eq_some_iff.1 hj).1; simpa using this
                obtain rfl : Value.int .i64 t = u := by simpa using hj
                rw [addr_add]
                exact cellOf (blk_new wr _ rfl) rfl
              case c2 => intro u hu; obtain rfl := List.mem_singleton.1 hu; rfl
              case c3 => unfold maxLen; omega
              case c4 => omega
              case c5 => have := IL2.out.below.size; simp; omega
              intro v' w1 hown' hgrow _
              have IN := Lib.hid (NX.out w1 v' (IL2.out.next hgrow hown'))
              clear hown' hgrow
              go_wp2
              go_roundw
              case rel => exact ⟨k + 1, by omega, by go_num, IN.out⟩
              case measure => simp [intOf]; omega
          · have hTS := TS.out k hlt (by rw [hx]; simpa using hp)
            have h2 : drop = true ∧ t = 2 := by
              by_cases e : t = 2
              · refine ⟨?_, e⟩
                rw [keep_truth (ht.trans e)] at hp
                cases drop with
                | false => exact absurd rfl hp
                | true => rfl
              · exact absurd (keep_true (by rw [ht]; exact e)) hp
            have IN := Lib.hid (hTS ▸ IL.out)
            obtain ⟨rfl, rfl⟩ := h2
            clear hx ht hm hh hTS hp
            go_wp2
            go_roundw
            case rel => exact ⟨k + 1, by omega, by go_num, IN.out⟩
            case measure => simp [intOf]; omega
        · obtain rfl : k = n := by omega
          have hil := IL.out
          rw [TF.out] at hil
          obtain ⟨so, co, rfl, hio⟩ := ints_of_row hil.row
          have IO := Lib.hid hio
          have BW := Lib.hid (below_then B3.out hil.below)
          have KR := Lib.hid (blk_below hil.below KR.out)
          have hlp : (pickL drop items).length ≤ 40 := by have := PL.out; omega
          clear hil hio
          cases some with
          | true =>
            have XV := Lib.hid (smyW_val nonLog_ne hs1.out 1 (fun l => logI (allG true l)) drop)
            rw [EL.out] at XV
            have CO := Lib.hid (fun (W : World) (hb : Below wr.heap.size wr W) => specAny so (pickL drop items).length co (tF (pickL drop items)) wr.heap.size W (fun i hi => by obtain ⟨b, off, e, hlt, hc⟩ := IO.out i hi; exact ⟨b, off, e, hlt, (hb.cell (p := ⟨b, off + i, none⟩) hlt).trans hc⟩) (by omega))
            have E1 := Lib.hid (show allG true (pickL drop items) = anyF (tF (pickL drop items)) (pickL drop items).length from rfl)
            rw [← E1.out] at CO
            obtain ⟨q, hq⟩ : ∃ q, allG true (pickL drop items) = q := ⟨_, rfl⟩
            have LV := Lib.hid (fun (W : World) (b : Nat) (hb : W.heap[b]? = Option.some (.cells #[.int .i64 q] 3 (0, 0))) => (by
              have h' := specLogVec (Option.some ⟨b, 0, none⟩) 1 1 (fun _ => q) W.heap.size W (fun i hi => ⟨b, 0, rfl, (Array.getElem?_eq_some_iff.1 hb).1, by rw [show i = 0 by omega]; exact cellOf hb rfl⟩) (Nat.le_refl _) (by omega)
              rw [if_pos (by omega)] at h'
              exact h' : Calls Try.prog 50 #[.slice (Option.some ⟨b, 0, none⟩) 1 1] W (ResV 1 (vecOf 1 [logI q]) W)))
            rw [hq] at CO XV
            have XS := hs1
            clear hq E1
            go_wp2_with fail
            with_reducible refine (CO.out _ (Below.refl _ _)).mono ?_
            rintro e w4 ⟨rfl, rfl⟩
            have hrr := (Array.getElem?_eq_some_iff.1 KR.out).1
            go_wp2_with fail
            obtain ⟨w5, hw5⟩ : ∃ W, wr.alloc (.cells #[.int .i64 q] 3) = W := ⟨_, rfl⟩
            have B5 := Lib.hid (show Below w.heap.size w w5 from hw5 ▸ BW.out.alloc BW.out.size _)
            have KQ := Lib.hid (show w5.heap[wr.heap.size]? = Option.some (.cells #[.int .i64 q] 3 (0, 0)) from hw5 ▸ blk_new wr _ rfl)
            have KR := Lib.hid (show w5.heap[w.heap.size + 1]? = Option.some (.cells #[.int .i64 0, .slice none 0 0, .slice none 0 0, .slice none 0 0, .slice none 0 0, .slice none 0 0, .int .i64 0, .int .i64 0] 31 (0, 0)) from hw5 ▸ blk_old KR.out)
            rw [hw5]
            clear hw5
            with_reducible refine ((LV.out _ wr.heap.size KQ.out)).mono ?_
            rintro e w6 ⟨y, rfl, ho, b⟩
            obtain ⟨yk, ya1, yn1, ym1, ya2, yn2, ym2, ya3, yn3, ym3, ya4, yn4, ym4, ya5, yn5, ym5, yc, ye, rfl⟩ := ho.agg
            have B6 := Lib.hid (below_then B5.out b)
            have hr1 := (Array.getElem?_eq_some_iff.1 KR.out).1
            have KR := Lib.hid (blk_below b KR.out)
            have HO := Lib.hid ho
            have hwz := B5.out.size
            clear ho b
            obtain ⟨z0, z1, z2, z3, z4, z5, z6, z7⟩ := vec8 KR.out
            obtain ⟨f0, f1, f2, f3, f4, f5, f6, f7⟩ := free8 KR.out
            go_wp2
            rw [XV.out, XS.out]
            exact vec_endS rfl rfl rfl rfl KR.out ⟨_, rfl, (HO.out.put8 hr1 _ _ _ _ _ _ _ _).wide (by omega) (by rw [put8_size]; exact Nat.le_refl _), put8_below B6.out (Nat.le_succ _)⟩
          | false =>
            have XV := Lib.hid (smyW_val nonLog_ne hs1.out 1 (fun l => logI (allG false l)) drop)
            rw [EL.out] at XV
            have CO := Lib.hid (fun (W : World) (hb : Below wr.heap.size wr W) => specAll so (pickL drop items).length co (tF (pickL drop items)) wr.heap.size W (fun i hi => by obtain ⟨b, off, e, hlt, hc⟩ := IO.out i hi; exact ⟨b, off, e, hlt, (hb.cell (p := ⟨b, off + i, none⟩) hlt).trans hc⟩) (by omega))
            have E1 := Lib.hid (show allG false (pickL drop items) = allF (tF (pickL drop items)) (pickL drop items).length from rfl)
            rw [← E1.out] at CO
            obtain ⟨q, hq⟩ : ∃ q, allG false (pickL drop items) = q := ⟨_, rfl⟩
            have LV := Lib.hid (fun (W : World) (b : Nat) (hb : W.heap[b]? = Option.some (.cells #[.int .i64 q] 3 (0, 0))) => (by
              have h' := specLogVec (Option.some ⟨b, 0, none⟩) 1 1 (fun _ => q) W.heap.size W (fun i hi => ⟨b, 0, rfl, (Array.getElem?_eq_some_iff.1 hb).1, by rw [show i = 0 by omega]; exact cellOf hb rfl⟩) (Nat.le_refl _) (by omega)
              rw [if_pos (by omega)] at h'
              exact h' : Calls Try.prog 50 #[.slice (Option.some ⟨b, 0, none⟩) 1 1] W (ResV 1 (vecOf 1 [logI q]) W)))
            rw [hq] at CO XV
            have XS := hs1
            clear hq E1
            go_wp2_with fail
            with_reducible refine (CO.out _ (Below.refl _ _)).mono ?_
            rintro e w4 ⟨rfl, rfl⟩
            have hrr := (Array.getElem?_eq_some_iff.1 KR.out).1
            go_wp2_with fail
            obtain ⟨w5, hw5⟩ : ∃ W, wr.alloc (.cells #[.int .i64 q] 3) = W := ⟨_, rfl⟩
            have B5 := Lib.hid (show Below w.heap.size w w5 from hw5 ▸ BW.out.alloc BW.out.size _)
            have KQ := Lib.hid (show w5.heap[wr.heap.size]? = Option.some (.cells #[.int .i64 q] 3 (0, 0)) from hw5 ▸ blk_new wr _ rfl)
            have KR := Lib.hid (show w5.heap[w.heap.size + 1]? = Option.some (.cells #[.int .i64 0, .slice none 0 0, .slice none 0 0, .slice none 0 0, .slice none 0 0, .slice none 0 0, .int .i64 0, .int .i64 0] 31 (0, 0)) from hw5 ▸ blk_old KR.out)
            rw [hw5]
            clear hw5
            with_reducible refine ((LV.out _ wr.heap.size KQ.out)).mono ?_
            rintro e w6 ⟨y, rfl, ho, b⟩
            obtain ⟨yk, ya1, yn1, ym1, ya2, yn2, ym2, ya3, yn3, ym3, ya4, yn4, ym4, ya5, yn5, ym5, yc, ye, rfl⟩ := ho.agg
            have B6 := Lib.hid (below_then B5.out b)
            have hr1 := (Array.getElem?_eq_some_iff.1 KR.out).1
            have KR := Lib.hid (blk_below b KR.out)
            have HO := Lib.hid ho
            have hwz := B5.out.size
            clear ho b
            obtain ⟨z0, z1, z2, z3, z4, z5, z6, z7⟩ := vec8 KR.out
            obtain ⟨f0, f1, f2, f3, f4, f5, f6, f7⟩ := free8 KR.out
            go_wp2
            rw [XV.out, XS.out]
            exact vec_endS rfl rfl rfl rfl KR.out ⟨_, rfl, (HO.out.put8 hr1 _ _ _ _ _ _ _ _).wide (by omega) (by rw [put8_size]; exact Nat.le_refl _), put8_below B6.out (Nat.le_succ _)⟩
    · have hs := (smy_non q hc (fun _ => noI) drop nonLogB).2.1
      have XS := Lib.hid hs
      have XV := Lib.hid (smyW_not (u := nonLogB) (v := VV) (by rw [hs]; exact nonLog_ne) 1 (fun l => logI (allG some l)) drop)
      have SNO := Lib.hid (fun W => SN.out W (fun h => hc (XC.2 h)))
      clear q hc XC XN XL SL SN hs
      go_wp2_with fail
      with_reducible refine (SNO.out _).mono ?_
      rintro e w3 ⟨⟨sa, c, rfl⟩, b⟩
      have B3 := Lib.hid (below_then B2.out b)
      have KR := Lib.hid (blk_below b KR.out)
      clear b k0 k1 k2 k3 k4 k5 k6 k7
      obtain ⟨z0, z1, z2, z3, z4, z5, z6, z7⟩ := vec8 KR.out
      obtain ⟨f0, f1, f2, f3, f4, f5, f6, f7⟩ := free8 KR.out
      go_wp2
      rw [XV.out, XS.out]
      exact vec_endS rfl rfl rfl rfl KR.out (zeroS _ w _ (put8_below B3.out (Nat.le_succ _)))
  · rw [bB_no q]
    have hs := (smy_bad q (fun _ => noI) drop nonLogB).2.1
    have XS := Lib.hid hs
    have XV := Lib.hid (smyW_not (u := nonLogB) (v := VV) (by rw [hs]; decide) 1 (fun l => logI (allG some l)) drop)
    clear q hs XC
    go_wp2_with fail
    with_reducible refine (BD.out _).mono ?_
    rintro e w3 ⟨rfl, b⟩
    have B3 := Lib.hid (below_then B2.out b)
    have KR := Lib.hid (blk_below b KR.out)
    clear b
    obtain ⟨z0, z1, z2, z3, z4, z5, z6, z7⟩ := vec8 KR.out
    obtain ⟨f0, f1, f2, f3, f4, f5, f6, f7⟩ := free8 KR.out
    go_wp2
    rw [XV.out, XS.out]
    exact vec_endS rfl rfl rfl rfl KR.out (zeroS _ w _ (put8_below B3.out (Nat.le_succ _)))
end Go.Proofs.Ytlnjjjoeblopeaa

/- CompareNumbers: the program's and the reference's. -/
namespace Go.Proofs.Ytlnjjjoeblopeaa
set_option maxRecDepth 100000
open Go.RowKit
set_option linter.unusedVariables false

theorem cmp_no {x y : It} (h : both x y = false) : cmpI x y = 2 := by unfold cmpI; simp [h]
theorem cmp_lt {x y : It} (h : both x y = true) (k : x.n * y.d < y.n * x.d) : cmpI x y = -1 := by unfold cmpI; rw [if_pos h, if_pos k]
theorem cmp_eq {x y : It} (h : both x y = true) (k : x.n * y.d = y.n * x.d) : cmpI x y = 0 := by unfold cmpI; rw [if_pos h, if_neg (by omega), if_pos k]
theorem cmp_gt {x y : It} (h : both x y = true) (k : y.n * x.d < x.n * y.d) : cmpI x y = 1 := by unfold cmpI; rw [if_pos h, if_neg (by omega), if_neg (by omega)]
theorem both_tx {x y : It} (h : both x y = true) : x.t = ⟨#[]⟩ := (isN_iff.1 (both_iff.1 h).1).1
theorem both_ty {x y : It} (h : both x y = true) : y.t = ⟨#[]⟩ := (isN_iff.1 (both_iff.1 h).2).1

set_option maxHeartbeats 4000000 in
theorem implCmp (x y : It) (w : World) (hx : x.t.size ≤ 9223372036854775807) (hy : y.t.size ≤ 9223372036854775807) :
    Calls Try.prog 140 #[.agg #[.int .i64 x.n, .int .i64 x.d, .string x.t], .agg #[.int .i64 y.n, .int .i64 y.d, .string y.t]] w fun e w' => e = .returned (.int .i64 (cmpI x y)) ∧ Below w.heap.size w w' := by
  cases h : both x y
  · have X := Lib.hid (cmp_no h)
    have N := Lib.hid h
    clear h
    go_enter Try.func140, Try.ntmps140
    go_wp2_with fail
    refine (areNo x y _ hx hy N.out).mono ?_
    rintro e w1 ⟨rfl, hb⟩
    obtain ⟨hc, hf⟩ := bcell hb
    have B1 := Lib.hid (below_then (below2 w _ _) hb)
    have GX := Lib.hid (blk_below (g := w.heap.size) hb (blk_old (blk_new _ _ rfl)))
    have GY := Lib.hid (blk_below (g := w.heap.size + 1) hb (blk_new _ _ (by simp)))
    clear hb
    go_wp2
    go_ret
    exact ⟨ret_i X.out.symm, B1.out⟩
  · have P := parts_in (both_iff.1 h).1 (both_iff.1 h).2
    have N := Lib.hid h
    have a0 : -999999998000000001 ≤ x.n * y.d := by omega
    have a1 : x.n * y.d ≤ 999999998000000001 := by omega
    have b0 : -999999998000000001 ≤ y.n * x.d := by omega
    have b1 : y.n * x.d ≤ 999999998000000001 := by omega
    have TX := Lib.hid (both_tx h)
    have TY := Lib.hid (both_ty h)
    by_cases q : x.n = y.n ∧ x.d = y.d
    · have X := Lib.hid (cmp_eq h (by rw [q.1, q.2]))
      obtain ⟨q1, q2⟩ := q
      obtain ⟨xn, xd, xt⟩ := x
      obtain ⟨yn, yd, yt⟩ := y
      obtain rfl : xn = yn := q1
      obtain rfl : xd = yd := q2
      obtain rfl : xt = ⟨#[]⟩ := TX.out
      obtain rfl : yt = ⟨#[]⟩ := TY.out
      clear h P TX TY
      go_enter Try.func140, Try.ntmps140
      go_wp2_with fail
      refine (areYes ⟨xn, xd, ⟨#[]⟩⟩ ⟨xn, xd, ⟨#[]⟩⟩ _ hx hy N.out).mono ?_
      rintro e w1 ⟨rfl, hb⟩
      obtain ⟨hc, hf⟩ := bcell hb
      have B1 := Lib.hid (below_then (below2 w _ _) hb)
      have GX := Lib.hid (blk_below (g := w.heap.size) hb (blk_old (blk_new _ _ rfl)))
      have GY := Lib.hid (blk_below (g := w.heap.size + 1) hb (blk_new _ _ (by simp)))
      clear hb
      go_wp2
      go_ret
      exact ⟨ret_i X.out.symm, B1.out⟩
    · have qq : ¬ x.n * y.d = y.n * x.d := fun e => q (by have := cross_eq h e; subst this; exact ⟨rfl, rfl⟩)
      have X1 := Lib.hid (fun k => cmp_lt h k)
      have X2 := Lib.hid (fun k => cmp_gt h k)
      obtain ⟨xn, xd, xt⟩ := x
      obtain ⟨yn, yd, yt⟩ := y
      obtain rfl : xt = ⟨#[]⟩ := TX.out
      obtain rfl : yt = ⟨#[]⟩ := TY.out
      dsimp only at *
      clear h P TX TY
      have q' : (xn ≠ yn) ∨ (1 ≤ 1 ∧ xn = yn ∧ xd ≠ yd) := by omega
      have Q := Lib.hid q'
      clear q q'
      by_cases s : xn * yd < yn * xd
      · have X := Lib.hid (X1.out s)
        clear X1 X2
        rcases Q.out with q | ⟨_, q0, q⟩
        · go_enter Try.func140, Try.ntmps140
          go_wp2_with fail
          refine (areYes ⟨xn, xd, ⟨#[]⟩⟩ ⟨yn, yd, ⟨#[]⟩⟩ _ hx hy N.out).mono ?_
          rintro e w1 ⟨rfl, hb⟩
          obtain ⟨hc, hf⟩ := bcell hb
          have B1 := Lib.hid (below_then (below2 w _ _) hb)
          have GX := Lib.hid (blk_below (g := w.heap.size) hb (blk_old (blk_new _ _ rfl)))
          have GY := Lib.hid (blk_below (g := w.heap.size + 1) hb (blk_new _ _ (by simp)))
          clear hb
          go_wp2
          go_ret
          exact ⟨ret_i X.out.symm, B1.out⟩
        · subst q0
          go_enter Try.func140, Try.ntmps140
          go_wp2_with fail
          refine (areYes ⟨xn, xd, ⟨#[]⟩⟩ ⟨xn, yd, ⟨#[]⟩⟩ _ hx hy N.out).mono ?_
          rintro e w1 ⟨rfl, hb⟩
          obtain ⟨hc, hf⟩ := bcell hb
          have B1 := Lib.hid (below_then (below2 w _ _) hb)
          have GX := Lib.hid (blk_below (g := w.heap.size) hb (blk_old (blk_new _ _ rfl)))
          have GY := Lib.hid (blk_below (g := w.heap.size + 1) hb (blk_new _ _ (by simp)))
          clear hb
          go_wp2
          go_ret
          exact ⟨ret_i X.out.symm, B1.out⟩
      · have X := Lib.hid (X2.out (by omega))
        clear X1 X2
        rcases Q.out with q | ⟨_, q0, q⟩
        · go_enter Try.func140, Try.ntmps140
          go_wp2_with fail
          refine (areYes ⟨xn, xd, ⟨#[]⟩⟩ ⟨yn, yd, ⟨#[]⟩⟩ _ hx hy N.out).mono ?_
          rintro e w1 ⟨rfl, hb⟩
          obtain ⟨hc, hf⟩ := bcell hb
          have B1 := Lib.hid (below_then (below2 w _ _) hb)
          have GX := Lib.hid (blk_below (g := w.heap.size) hb (blk_old (blk_new _ _ rfl)))
          have GY := Lib.hid (blk_below (g := w.heap.size + 1) hb (blk_new _ _ (by simp)))
          clear hb
          go_wp2
          go_ret
          exact ⟨ret_i X.out.symm, B1.out⟩
        · subst q0
          go_enter Try.func140, Try.ntmps140
          go_wp2_with fail
          refine (areYes ⟨xn, xd, ⟨#[]⟩⟩ ⟨xn, yd, ⟨#[]⟩⟩ _ hx hy N.out).mono ?_
          rintro e w1 ⟨rfl, hb⟩
          obtain ⟨hc, hf⟩ := bcell hb
          have B1 := Lib.hid (below_then (below2 w _ _) hb)
          have GX := Lib.hid (blk_below (g := w.heap.size) hb (blk_old (blk_new _ _ rfl)))
          have GY := Lib.hid (blk_below (g := w.heap.size + 1) hb (blk_new _ _ (by simp)))
          clear hb
          go_wp2
          go_ret
          exact ⟨ret_i X.out.symm, B1.out⟩


set_option maxHeartbeats 4000000 in
theorem specCmp (x y : It) (w : World) (hx : x.t.size ≤ 9223372036854775807) (hy : y.t.size ≤ 9223372036854775807) :
    Calls Try.prog 101 #[.agg #[.int .i64 x.n, .int .i64 x.d, .string x.t], .agg #[.int .i64 y.n, .int .i64 y.d, .string y.t]] w fun e w' => e = .returned (.int .i64 (cmpI x y)) ∧ Below w.heap.size w w' := by
  cases h : isN x
  · have X := Lib.hid (cmp_no (y := y) (not_both1 h))
    have NX := Lib.hid (show isN ⟨x.n, x.d, x.t⟩ = false from h)
    clear h
    go_enter Try.func101, Try.ntmps101
    go_wp2_with fail
    refine (specNumNo x.n x.d x.t _ hx NX.out).mono ?_
    rintro e w1 ⟨rfl, hb⟩
    obtain ⟨hc, hf⟩ := bcell hb
    have W1 := Lib.hid hb
    have B1 := Lib.hid (below_then (below2 w _ _) hb)
    clear hb
    go_wp2
    go_ret
    exact ⟨ret_i X.out.symm, B1.out⟩
  · cases k : isN y
    · have X := Lib.hid (cmp_no (x := x) (not_both2 k))
      have NX := Lib.hid (show isN ⟨x.n, x.d, x.t⟩ = true from h)
      have NY := Lib.hid (show isN ⟨y.n, y.d, y.t⟩ = false from k)
      clear h k
      go_enter Try.func101, Try.ntmps101
      go_wp2_with fail
      refine (specNumYes x.n x.d x.t _ hx NX.out).mono ?_
      rintro e w1 ⟨rfl, hb⟩
      obtain ⟨hc, hf⟩ := bcell hb
      have W1 := Lib.hid hb
      have B1 := Lib.hid (below_then (below2 w _ _) hb)
      clear hb
      go_wp2_with fail
      refine (specNumNo y.n y.d y.t _ hy NY.out).mono ?_
      rintro e w2 ⟨rfl, hb⟩
      have W2 := Lib.hid (W1.out.trans (hb.mono W1.out.size))
      clear hc hf
      obtain ⟨hc2, hf2⟩ := bcell W2.out
      have B2 := Lib.hid (below_then B1.out hb)
      clear hb
      go_wp2
      go_ret
      exact ⟨ret_i X.out.symm, B2.out⟩
    · have hB : both x y = true := both_iff.2 ⟨h, k⟩
      have P := parts_in h k
      have NX := Lib.hid (show isN ⟨x.n, x.d, x.t⟩ = true from h)
      have NY := Lib.hid (show isN ⟨y.n, y.d, y.t⟩ = true from k)
      have a0 : -999999998000000001 ≤ x.n * y.d := by omega
      have a1 : x.n * y.d ≤ 999999998000000001 := by omega
      have b0 : -999999998000000001 ≤ y.n * x.d := by omega
      have b1 : y.n * x.d ≤ 999999998000000001 := by omega
      by_cases s : x.n * y.d - y.n * x.d < 0
      · have X := Lib.hid (cmp_lt hB (by omega))
        clear h k hB P
        go_enter Try.func101, Try.ntmps101
        go_wp2_with fail
        refine (specNumYes x.n x.d x.t _ hx NX.out).mono ?_
        rintro e w1 ⟨rfl, hb⟩
        obtain ⟨hc, hf⟩ := bcell hb
        have W1 := Lib.hid hb
        have B1 := Lib.hid (below_then (below2 w _ _) hb)
        clear hb
        go_wp2_with fail
        refine (specNumYes y.n y.d y.t _ hy NY.out).mono ?_
        rintro e w2 ⟨rfl, hb⟩
        have W2 := Lib.hid (W1.out.trans (hb.mono W1.out.size))
        clear hc hf
        obtain ⟨hc2, hf2⟩ := bcell W2.out
        have B2 := Lib.hid (below_then B1.out hb)
        clear hb
        go_wp2
        go_ret
        exact ⟨ret_i X.out.symm, B2.out⟩
      · by_cases s1 : x.n * y.d - y.n * x.d = 0
        · have s2 : ¬ 1 ≤ x.n * y.d - y.n * x.d := by omega
          have X := Lib.hid (cmp_eq hB (by omega))
          clear h k hB P
          go_enter Try.func101, Try.ntmps101
          go_wp2_with fail
          refine (specNumYes x.n x.d x.t _ hx NX.out).mono ?_
          rintro e w1 ⟨rfl, hb⟩
          obtain ⟨hc, hf⟩ := bcell hb
          have W1 := Lib.hid hb
          have B1 := Lib.hid (below_then (below2 w _ _) hb)
          clear hb
          go_wp2_with fail
          refine (specNumYes y.n y.d y.t _ hy NY.out).mono ?_
          rintro e w2 ⟨rfl, hb⟩
          have W2 := Lib.hid (W1.out.trans (hb.mono W1.out.size))
          clear hc hf
          obtain ⟨hc2, hf2⟩ := bcell W2.out
          have B2 := Lib.hid (below_then B1.out hb)
          clear hb
          go_wp2
          go_ret
          exact ⟨ret_i X.out.symm, B2.out⟩
        · have s2 : 1 ≤ x.n * y.d - y.n * x.d := by omega
          by_cases s3 : x.n * y.d - y.n * x.d ≤ 1
          · have X := Lib.hid (show cmpI x y = x.n * y.d - y.n * x.d by rw [cmp_gt hB (by omega)]; omega)
            clear h k hB P
            go_enter Try.func101, Try.ntmps101
            go_wp2_with fail
            refine (specNumYes x.n x.d x.t _ hx NX.out).mono ?_
            rintro e w1 ⟨rfl, hb⟩
            obtain ⟨hc, hf⟩ := bcell hb
            have W1 := Lib.hid hb
            have B1 := Lib.hid (below_then (below2 w _ _) hb)
            clear hb
            go_wp2_with fail
            refine (specNumYes y.n y.d y.t _ hy NY.out).mono ?_
            rintro e w2 ⟨rfl, hb⟩
            have W2 := Lib.hid (W1.out.trans (hb.mono W1.out.size))
            clear hc hf
            obtain ⟨hc2, hf2⟩ := bcell W2.out
            have B2 := Lib.hid (below_then B1.out hb)
            clear hb
            go_wp2
            go_ret
            exact ⟨ret_i X.out.symm, B2.out⟩
          · have X := Lib.hid (cmp_gt hB (by omega))
            clear h k hB P
            go_enter Try.func101, Try.ntmps101
            go_wp2_with fail
            refine (specNumYes x.n x.d x.t _ hx NX.out).mono ?_
            rintro e w1 ⟨rfl, hb⟩
            obtain ⟨hc, hf⟩ := bcell hb
            have W1 := Lib.hid hb
            have B1 := Lib.hid (below_then (below2 w _ _) hb)
            clear hb
            go_wp2_with fail
            refine (specNumYes y.n y.d y.t _ hy NY.out).mono ?_
            rintro e w2 ⟨rfl, hb⟩
            have W2 := Lib.hid (W1.out.trans (hb.mono W1.out.size))
            clear hc hf
            obtain ⟨hc2, hf2⟩ := bcell W2.out
            have B2 := Lib.hid (below_then B1.out hb)
            clear hb
            go_wp2
            go_ret
            exact ⟨ret_i X.out.symm, B2.out⟩
end Go.Proofs.Ytlnjjjoeblopeaa

/- ExtremeOf as data; operations for it. -/
namespace Go.Proofs.Ytlnjjjoeblopeaa
open Go.RowKit
set_option maxRecDepth 100000
set_option linter.unusedVariables false

def wantL (lg : Bool) : Int := match lg with | true => 1 | false => -1
/-- One more element. -/
def extI (lg : Bool) (e x : It) : It := if cmpI x e = 2 then noI else if cmpI x e = wantL lg then x else e
def extL (lg : Bool) (l : List It) : It := match l with | [] => noI | a :: r => r.foldl (extI lg) a
theorem cmp_four (x y : It) : cmpI x y = 2 ∨ cmpI x y = 1 ∨ cmpI x y = -1 ∨ cmpI x y = 0 := by unfold cmpI; split <;> (try split) <;> (try split) <;> omega
theorem good_num {x : It} (h : NumIt x) : GoodI x := ⟨⟨⟨by have := h.n0; omega, by have := h.n1; omega⟩, ⟨by have := h.d0; omega, by have := h.d1; omega⟩, by rw [h.t]; exact Nat.zero_le _⟩, h.t⟩
theorem good_ext (lg : Bool) (e x : It) (he : GoodI e) (hx : GoodI x) : GoodI (extI lg e x) := by unfold extI; split; exact good_noI; split; exact hx; exact he
theorem good_extF (lg : Bool) : ∀ (l : List It) (a : It), GoodI a → (∀ x ∈ l, GoodI x) → GoodI (l.foldl (extI lg) a)
  | [], a, ha, _ => ha
  | x :: l, a, ha, h => good_extF lg l _ (good_ext lg a x ha (h x (List.mem_cons_self ..))) (fun y hy => h y (List.mem_cons_of_mem _ hy))
theorem good_extL (lg : Bool) (l : List It) (h : ∀ x ∈ l, GoodI x) : GoodI (extL lg l) := by
  cases l with
  | nil => exact good_noI
  | cons a r => exact good_extF lg r a (h a (List.mem_cons_self ..)) (fun x hx => h x (List.mem_cons_of_mem _ hx))
/-- The problem, the answer. -/
noncomputable def exS (drop : Bool) (v : Vec) : ByteArray := match bB (smyS nonNumB v = ⟨#[]⟩), (smyL drop v).length with | true, 0 => noElB | true, _ + 1 => ⟨#[]⟩ | false, _ => smyS nonNumB v
noncomputable def exV (lg drop : Bool) (v : Vec) : Vec := match bB (smyS nonNumB v = ⟨#[]⟩), (smyL drop v).length with | true, 0 => noV | true, _ + 1 => vecOf 2 [extL lg (smyL drop v)] | false, _ => noV
theorem ex_not {v : Vec} (h : ¬ smyS nonNumB v = ⟨#[]⟩) (lg drop : Bool) : exS drop v = smyS nonNumB v ∧ exV lg drop v = noV := by
  unfold exS exV
  rw [bB_no h]
  exact ⟨rfl, rfl⟩
theorem ex_nil {v : Vec} (h : smyS nonNumB v = ⟨#[]⟩) {lg drop : Bool} (hl : (smyL drop v).length = 0) : exS drop v = noElB ∧ exV lg drop v = noV := by
  unfold exS exV
  rw [bB_yes h, hl]
  exact ⟨rfl, rfl⟩
theorem ex_val {v : Vec} (h : smyS nonNumB v = ⟨#[]⟩) {lg drop : Bool} {n : Nat} (hl : (smyL drop v).length = n + 1) : exS drop v = ⟨#[]⟩ ∧ exV lg drop v = vecOf 2 [extL lg (smyL drop v)] := by
  unfold exS exV
  rw [bB_yes h, hl]
  exact ⟨rfl, rfl⟩
theorem ex_plain (lg drop : Bool) (v : Vec) : PlainN (exV lg drop v) := by
  unfold exV
  split
  · exact .inl rfl
  · exact plain_one (good_extL lg _ (fun x hx => good_num (smyL_num drop v x hx))) 2 (by decide)
  · exact .inl rfl
/-- The extreme of the first k elements. -/
def exF (lg : Bool) (l : List It) (k : Nat) : It := extL lg (l.take k)
theorem exF_one {lg : Bool} {l : List It} (h : 0 < l.length) : exF lg l 1 = l.getD 0 noI := by
  cases l with
  | nil => cases h
  | cons a r => rfl
theorem exF_next {lg : Bool} {l : List It} {k : Nat} (h0 : 0 < k) (hk : k < l.length) : exF lg l (k + 1) = extI lg (exF lg l k) (l.getD k noI) := by
  unfold exF
  rw [take_one hk]
  cases l with
  | nil => cases hk
  | cons a r =>
    obtain ⟨j, rfl⟩ : ∃ j, k = j + 1 := ⟨k - 1, by omega⟩
    rw [List.take_succ_cons, List.cons_append]
    show (List.take j r ++ [(a :: r).getD (j + 1) noI]).foldl (extI lg) a = extI lg ((List.take j r).foldl (extI lg) a) ((a :: r).getD (j + 1) noI)
    rw [List.foldl_append]
    rfl
theorem exF_all (lg : Bool) (l : List It) : exF lg l l.length = extL lg l := by unfold exF; rw [List.take_length]
theorem exF_good (lg : Bool) {l : List It} (h : ∀ x ∈ l, GoodI x) (k : Nat) : GoodI (exF lg l k) := good_extL lg _ (fun x hx => h x (List.mem_of_mem_take hx))
/-- The elements behind the first. -/
theorem ItemsAt.tail1 {lo hi : Nat} {w : World} {b off c : Nat} {x : It} {r : List It} (h : ItemsAt lo hi w (some ⟨b, off, none⟩) (x :: r)) (hc : r.length + 1 ≤ c) : ItemsAt lo hi w (if c = 1 then some ⟨b, off, none⟩ else some ⟨b, off + 3, none⟩) r := by
  intro i y hy
  have hi' := (List.getElem?_eq_some_iff.1 hy).1
  rw [if_neg (by omega)]
  obtain ⟨b', off', e, h0, h1, c0, c1, c2⟩ := h (i + 1) y (by simpa using hy)
  simp only [Option.some.injEq, Addr.mk.injEq, and_true] at e
  obtain ⟨rfl, rfl⟩ := e
  refine ⟨b, off + 3, rfl, h0, h1, ?_, ?_, ?_⟩
  · rw [show off + 3 + i * 3 = off + (i + 1) * 3 by omega]; exact c0
  · rw [show off + 3 + i * 3 + 1 = off + (i + 1) * 3 + 1 by omega]; exact c1
  · rw [show off + 3 + i * 3 + 2 = off + (i + 1) * 3 + 2 by omega]; exact c2
section
variable {ops : Array Oper} {Q : Exit → Act → World → Prop} {S : World → Prop}
variable {r : List (Nat × Bool)} {a : Act} {e : List (Nat × Value)} {w : World} {i d : Nat} {g : Option (Nat × Bool)}
/-- A slice from its second element on. -/
theorem run_from1 {x : Operand} {b off n c : Nat} (ho : opAt ops i = some (some d, .slice 28 x (some (.const (.int .i64 1))) none none, g)) (hd : Nat.blt d a.tmps.size = true) (hw : wantE ops a e g = some true)
    (hx : lookO a e x = .slice (some ⟨b, off, none⟩) n c) (hn : 1 ≤ n) (hc : n ≤ c) {ta : Option Addr} (hta : (if c = 1 then some ⟨b, off, none⟩ else some ⟨b, off + 3, none⟩) = ta)
    (h : RunE Try.prog ops Q S r a ((d, .slice ta (n - 1) (c - 1)) :: e) w) : RunE Try.prog ops Q S ((i, true) :: r) a e w :=
  run_yield ho hd hw (fun o w' h1 _ => by
    subst hta
    unfold execOp; rw [h1]
    simp only [hx, Option.map_some, Option.map_none]
    refine run_v ?_
    obtain ⟨ie, hie, _, hsz, _⟩ := info_parts infoItm3
    have he : Try.prog.elem 28 = 66 := by kernel_rfl
    have hie0 := hie
    rw [← he] at hie
    have hu : Try.prog.underlying 28 = some (.slice (Try.prog.elem 28)) := by kernel_rfl
    have hlk : lookO a e (.const (.int .i64 1)) = .int .i64 1 := rfl
    rw [hlk, run_sliceAt_slice (h := hu), run_slice_any (ht := hu)]
    have e1 : (Instr.sliceBounds true n c (some (.int .i64 1)) none none).run Try.prog w' = .ok (1, n, c) w' := by
      have e0 : (Instr.sliceBound (.int .i64 1) n .sliceB).run Try.prog w' = .ok 1 w' := run_sliceBound w' .i64 1 n _ (by decide) (by omega)
      simp [Instr.sliceBounds, e0]
    rw [e1]
    simp only [Result.andThen_ok, sizeOf, typeInfo]
    by_cases h1 : c = 1
    · subst h1
      simp [go_sem, sliced, hie0]
    · simp [go_sem, sliced, hie0, hsz, h1, addr_add]) h
theorem run_mkf {f : FuncId} {x : Operand} {v : Value} (ho : opAt ops i = some (some d, .makeFunc (.func f) #[] [x].toArray, g)) (hd : Nat.blt d a.tmps.size = true) (hw : wantE ops a e g = some true)
    (hx : lookO a e x = v) (h : RunE Try.prog ops Q S r a ((d, .func (.func f) #[] #[v]) :: e) w) : RunE Try.prog ops Q S ((i, true) :: r) a e w :=
  run_yield ho hd hw (fun o w' h1 _ => by
    unfold execOp; rw [h1]
    simp only [List.map_toArray, List.map_cons, List.map_nil, hx]
    rfl) h
end
end Go.Proofs.Ytlnjjjoeblopeaa
