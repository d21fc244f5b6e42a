/- The draw of a power's two items. -/
import Derived.Test.YtmglolpiekbnpaaDoorRegB
import Derived.Test.YtmglolpiekbnpaaDoorDrawNum
namespace Go.Proofs.YtmglolpiekbnpaaDoor
set_option maxRecDepth 100000
open Go.RowKit
set_option linter.unusedVariables false

theorem pow_ex (k : Nat) (h : k < 43) : IntKind.i64.wrap ((k : Int) - 21) = (k : Int) - 21 := IntWalk.i64_in _ (by omega)
set_option maxHeartbeats 8000000 in
theorem drawPowerOf (a : Option Addr) (n cap : Nat) (w : World) (hs : CodeAt w.heap.size w a n) (hn : n ≤ 1048576) :
    Calls Tryd.prog 9 #[.slice a n cap] w (TwoPost w) := by
  have S := Lib.hid hs
  clear hs
  go_enter Tryd.func9, Tryd.ntmps9
  go_wp2_with fail
  refine (drawNew a n cap _ ((S.out.below (below2 w _ _)).mono (by simp; omega)) hn).mono ?_
  rintro e w1 ⟨rfl, c1, b1⟩
  have B1 := Lib.hid (below_then (below2 w _ _) b1)
  have P0 := Lib.hid (blk_below (g := w.heap.size) b1 (blk_old (blk_new _ _ rfl)))
  have Q0 := Lib.hid (blk_below (g := w.heap.size + 1) b1 (blk_new _ _ (by simp)))
  have hp0 : ((w.alloc (.cells #[.int .i64 0, .int .i64 0, .string ⟨#[]⟩] 25)).alloc (.cells #[.int .i64 0, .int .i64 0, .string ⟨#[]⟩] 25)).heap.size = w.heap.size + 2 := by simp
  rw [hp0] at c1
  have hpl := c1.lt
  obtain ⟨p, hp⟩ : ∃ p, w.heap.size + 2 = p := ⟨_, rfl⟩
  rw [hp] at c1 hpl
  have C1 := Lib.hid c1
  have G1 := Lib.hid (grown_refl w1 (some p))
  clear c1 b1 hp0
  have eaddr : w.heap.size + 1 + 1 = p := hp
  simp only [World.size_alloc, eaddr]
  have hB : w.heap.size ≤ p := by omega
  have S1 := Lib.hid (S.out.below B1.out)
  go_wp2_with fail
  refine (drawAny a n cap p w.heap.size w1 S1.out hB C1.out hn).mono ?_
  rintro e w2 ⟨⟨x, rfl, hx⟩, c2, g2⟩
  have C2 := Lib.hid c2
  have G2 := Lib.hid g2
  have P2 := Lib.hid (grown_blk g2 P0.out (by omega))
  have Q2 := Lib.hid (grown_blk g2 Q0.out (by omega))
  have hw2 := g2.size
  have NX := Lib.hid hx
  clear c2 g2 hx
  go_wp2_with fail
  refine (drawOnce 6 (by omega) (by omega) a n cap p w.heap.size _ (S1.out.below (grown_below (grown_alloc G2.out _) hB hpl)) hB (C2.out.below ((Below.refl _ w2).alloc (Nat.le_refl _) _)) hn).mono ?_
  rintro e w3 ⟨⟨b, rfl⟩, c3, g3⟩
  have C3 := Lib.hid c3
  have G3 := Lib.hid (grown_trans (grown_alloc G2.out _) g3)
  have hl2 := C2.out.lt
  have P3 := Lib.hid (grown_blk g3 (blk_old P2.out) (by omega))
  have Q3 := Lib.hid (grown_blk g3 (blk_old Q2.out) (by omega))
  have X3 := Lib.hid (grown_blk (g := w2.heap.size) g3 (blk_new _ _ rfl) (by omega))
  clear c3 g3
  cases b
  · go_wp2_with fail
    refine run_region (ops := (opsOf Tryd.f9 5)) (S := fun w' => w'.heap[w2.heap.size]? = some (.cells #[.int .i64 x.n, .int .i64 x.d, .string x.t] 25 (0, 0))) [(0, true), (1, true), (2, false), (3, true), (4, false), (5, false), (6, false)] (by kernel_rfl) (by kernel_rfl) (by kernel_rfl) (by kernel_rfl) (by kernel_rfl) (fun _ _ _ _ _ h => h) (blk_drew X3.out) ?_
    refine run_load (v := .agg #[.int .i64 x.n, .int .i64 x.d, .string x.t]) (p := .pointer (some ⟨w2.heap.size, 0, none⟩)) (show opAt (opsOf Tryd.f9 5) 0 = some (some 15, .load 25 (.tmp 5), none) from by kernel_rfl) (by kernel_rfl) (by kernel_rfl) (by kernel_rfl) (fun w' hS => load_item hS) ?_
    refine run_mov (v := .pointer (some ⟨p, 0, none⟩)) (show opAt (opsOf Tryd.f9 5) 1 = some (some 16, .move (.tmp 4), none) from by kernel_rfl) (by kernel_rfl) (by kernel_rfl) (by kernel_rfl) ?_
    refine run_call (args := [.pointer (some ⟨p, 0, none⟩), .int .i64 43]) (show opAt (opsOf Tryd.f9 5) 2 = some (some 17, .call { callee := .value (.func 27), args := [(.tmp 16), (.const (.int .i64 43))].toArray, argTypes := [36, 3].toArray }, none) from by kernel_rfl) (by kernel_rfl) (by kernel_rfl) (by kernel_rfl) (by kernel_rfl) ?_
    refine (drawBelow 43 (by omega) (by omega) a n cap p w.heap.size _ (S1.out.below (grown_below (grown_drew' G3.out) hB hpl)) hB (C3.out.drew 1) hn).mono ?_
    rintro e w4 ⟨⟨k, rfl, hk⟩, c4, g4⟩
    have G4 := Lib.hid (grown_trans (grown_drew' G3.out) g4)
    have P4 := Lib.hid (grown_blk g4 (blk_drew P3.out) (by omega))
    have Q4 := Lib.hid (grown_blk g4 (blk_drew Q3.out) (by omega))
    have X4 := Lib.hid (grown_blk g4 (blk_drew X3.out) (by omega))
    have K4 := Lib.hid (pow_ex k hk)
    clear c4 g4
    refine ⟨_, rfl, X4.out, ?_⟩
    refine run_sub (k := .i64) (p := (k : Int)) (q := 21) (z := (k : Int) - 21) (show opAt (opsOf Tryd.f9 5) 3 = some (some 18, .binOp .sub 3 (.tmp 17) (.const (.int .i64 21)) 3, none) from by kernel_rfl) (by kernel_rfl) (by kernel_rfl) (by kernel_rfl) (by kernel_rfl) K4.out ?_
    refine run_call (args := [.int .i64 ((k : Int) - 21)]) (show opAt (opsOf Tryd.f9 5) 4 = some (some 19, .call { callee := .value (.func 26), args := [(.tmp 18)].toArray, argTypes := [3].toArray }, none) from by kernel_rfl) (by kernel_rfl) (by kernel_rfl) (by kernel_rfl) (by kernel_rfl) ?_
    refine (num3 ((k : Int) - 21) _).mono ?_
    rintro e w5 ⟨rfl, hb⟩
    have G5 := Lib.hid (grown_trans G4.out (grown_of_below hb))
    have P5 := Lib.hid (blk_below hb P4.out)
    have Q5 := Lib.hid (blk_below hb Q4.out)
    have X5 := Lib.hid (blk_below hb X4.out)
    clear hb
    obtain ⟨y, hy⟩ : ∃ y : It, (⟨(k : Int) - 21, 1, ⟨#[]⟩⟩ : It) = y := ⟨_, rfl⟩
    have NY := Lib.hid (hy ▸ nice_one ((k : Int) - 21) (by omega) (by omega))
    refine ⟨.agg #[.int .i64 y.n, .int .i64 y.d, .string y.t], by rw [← hy], X5.out, ?_⟩
    clear hy
    refine run_store (w' := w5.setRow w.heap.size #[.int .i64 x.n, .int .i64 x.d, .string x.t]) (p := .pointer (some ⟨w.heap.size, 0, none⟩)) (u := .agg #[.int .i64 x.n, .int .i64 x.d, .string x.t]) (show opAt (opsOf Tryd.f9 5) 5 = some (none, .store 25 (.tmp 2) (.tmp 15), none) from by kernel_rfl) (by kernel_rfl) (by kernel_rfl) (by kernel_rfl) (store_item P5.out rfl rfl rfl) (row_old X5.out (by omega)) ?_
    refine run_store (w' := (w5.setRow w.heap.size #[.int .i64 x.n, .int .i64 x.d, .string x.t]).setRow (w.heap.size + 1) #[.int .i64 y.n, .int .i64 y.d, .string y.t]) (p := .pointer (some ⟨w.heap.size + 1, 0, none⟩)) (u := .agg #[.int .i64 y.n, .int .i64 y.d, .string y.t]) (show opAt (opsOf Tryd.f9 5) 6 = some (none, .store 25 (.tmp 3) (.tmp 19), none) from by kernel_rfl) (by kernel_rfl) (by kernel_rfl) (by kernel_rfl) (store_item (row_old Q5.out (by omega)) rfl rfl rfl) (row_old (row_old X5.out (by omega)) (by omega)) ?_
    refine run_done ?_
    simp only [putAll, Act.put, List.setIfInBounds_toArray, List.set_cons_zero, List.set_cons_succ]
    go_wp2
    exact item_ret22 rfl rfl rfl rfl (row_old (row_set P5.out) (by omega)) (row_set (row_old Q5.out (by omega))) (two_post NX.out NY.out (below_row (below_row (B1.out.trans (grown_below G5.out hB hpl)) (by omega) _) (by omega) _))
  · go_wp2_with fail
    refine run_region (ops := (opsOf Tryd.f9 4)) (S := fun w' => w'.heap[w2.heap.size]? = some (.cells #[.int .i64 x.n, .int .i64 x.d, .string x.t] 25 (0, 0))) [(0, true), (1, true), (2, false), (3, false), (4, false)] (by kernel_rfl) (by kernel_rfl) (by kernel_rfl) (by kernel_rfl) (by kernel_rfl) (fun _ _ _ _ _ h => h) (blk_drew X3.out) ?_
    refine run_load (v := .agg #[.int .i64 x.n, .int .i64 x.d, .string x.t]) (p := .pointer (some ⟨w2.heap.size, 0, none⟩)) (show opAt (opsOf Tryd.f9 4) 0 = some (some 12, .load 25 (.tmp 5), none) from by kernel_rfl) (by kernel_rfl) (by kernel_rfl) (by kernel_rfl) (fun w' hS => load_item hS) ?_
    refine run_mov (v := .pointer (some ⟨p, 0, none⟩)) (show opAt (opsOf Tryd.f9 4) 1 = some (some 13, .move (.tmp 4), none) from by kernel_rfl) (by kernel_rfl) (by kernel_rfl) (by kernel_rfl) ?_
    refine run_call (args := [.pointer (some ⟨p, 0, none⟩)]) (show opAt (opsOf Tryd.f9 4) 2 = some (some 14, .call { callee := .value (.func 18), args := [(.tmp 13)].toArray, argTypes := [36].toArray }, none) from by kernel_rfl) (by kernel_rfl) (by kernel_rfl) (by kernel_rfl) (by kernel_rfl) ?_
    refine (drawAny a n cap p w.heap.size _ (S1.out.below (grown_below (grown_drew' G3.out) hB hpl)) hB (C3.out.drew 1) hn).mono ?_
    rintro e w4 ⟨⟨y, rfl, hy⟩, c4, g4⟩
    have G4 := Lib.hid (grown_trans (grown_drew' G3.out) g4)
    have P4 := Lib.hid (grown_blk g4 (blk_drew P3.out) (by omega))
    have Q4 := Lib.hid (grown_blk g4 (blk_drew Q3.out) (by omega))
    have X4 := Lib.hid (grown_blk g4 (blk_drew X3.out) (by omega))
    have NY := Lib.hid hy
    clear c4 g4 hy
    refine ⟨_, rfl, X4.out, ?_⟩
    refine run_store (w' := w4.setRow w.heap.size #[.int .i64 x.n, .int .i64 x.d, .string x.t]) (p := .pointer (some ⟨w.heap.size, 0, none⟩)) (u := .agg #[.int .i64 x.n, .int .i64 x.d, .string x.t]) (show opAt (opsOf Tryd.f9 4) 3 = some (none, .store 25 (.tmp 2) (.tmp 12), none) from by kernel_rfl) (by kernel_rfl) (by kernel_rfl) (by kernel_rfl) (store_item P4.out rfl rfl rfl) (row_old X4.out (by omega)) ?_
    refine run_store (w' := (w4.setRow w.heap.size #[.int .i64 x.n, .int .i64 x.d, .string x.t]).setRow (w.heap.size + 1) #[.int .i64 y.n, .int .i64 y.d, .string y.t]) (p := .pointer (some ⟨w.heap.size + 1, 0, none⟩)) (u := .agg #[.int .i64 y.n, .int .i64 y.d, .string y.t]) (show opAt (opsOf Tryd.f9 4) 4 = some (none, .store 25 (.tmp 3) (.tmp 14), none) from by kernel_rfl) (by kernel_rfl) (by kernel_rfl) (by kernel_rfl) (store_item (row_old Q4.out (by omega)) rfl rfl rfl) (row_old (row_old X4.out (by omega)) (by omega)) ?_
    refine run_done ?_
    simp only [putAll, Act.put, List.setIfInBounds_toArray, List.set_cons_zero, List.set_cons_succ]
    go_wp2
    exact item_ret22 rfl rfl rfl rfl (row_old (row_set P4.out) (by omega)) (row_set (row_old Q4.out (by omega))) (two_post NX.out NY.out (below_row (below_row (B1.out.trans (grown_below G4.out hB hpl)) (by omega) _) (by omega) _))
end Go.Proofs.YtmglolpiekbnpaaDoor
