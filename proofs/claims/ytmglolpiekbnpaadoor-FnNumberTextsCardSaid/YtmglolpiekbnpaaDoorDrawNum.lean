/- The draws of numbers: what they hand out is in bounds. -/
import Derived.Test.YtmglolpiekbnpaaDoorDrawCore
import Derived.Test.YtmglolpiekbnpaaDoorNumMath
import Derived.Test.YtmglolpiekbnpaaDoorNumKit
import Derived.Test.YtmglolpiekbnpaaDoorNumSpecMake
import Derived.RegionTactic
import Derived.Deep.RegionHeld3
namespace Go.Proofs.YtmglolpiekbnpaaDoor
set_option maxRecDepth 100000
open Go.RowKit
set_option linter.unusedVariables false

/-- An item that a draw hands out. -/
def Nice (x : It) : Prop := (-9223372036854775808 ≤ x.n ∧ x.n ≤ 9223372036854775807) ∧ (-9223372036854775808 ≤ x.d ∧ x.d ≤ 9223372036854775807) ∧ x.t.size ≤ 21
theorem nice_no : Nice noI := by unfold Nice noI; decide
theorem nice_one (n : Int) (h0 : -9223372036854775808 ≤ n) (h1 : n ≤ 9223372036854775807) : Nice ⟨n, 1, ⟨#[]⟩⟩ := ⟨⟨h0, h1⟩, ⟨by show (_ : Int) ≤ 1; decide, by show (1 : Int) ≤ _; decide⟩, by show (0 : Nat) ≤ 21; decide⟩
theorem nice_of (n d : Int) : Nice (mkI n d) := by
  unfold mkI
  split
  · rcases ofQ_cases (Rat.divInt n d) with h | ⟨h, _⟩
    · rw [h]; exact nice_no
    · have := isN_iff.1 h
      exact ⟨by omega, by omega, by rw [this.1]; decide⟩
  · exact nice_no
theorem nice_eta (n d : Int) : Nice ⟨(mkI n d).n, (mkI n d).d, ⟨#[]⟩⟩ := by
  have h := nice_of n d
  have e := mkI_t n d
  exact ⟨h.1, h.2.1, by show (0 : Nat) ≤ 21; decide⟩
theorem int_at (w : World) (ss : List Int) (hs : ∀ x ∈ ss, -9223372036854775808 ≤ x ∧ x ≤ 9223372036854775807) (t : TypeId) : ∀ k, k < ss.length → ∃ x : Int, (w.alloc (.cells (ss.map (Value.int .i64)).toArray t)).cell? ⟨w.heap.size, k, none⟩ = some (.int .i64 x) ∧ -9223372036854775808 ≤ x ∧ x ≤ 9223372036854775807 := by
  intro k hk
  refine ⟨ss.getD k 0, cell_ints w ss t k hk, ?_⟩
  exact hs _ (by rw [List.getD_eq_getElem?_getD, List.getElem?_eq_getElem hk]; exact List.getElem_mem hk)
theorem set3_far {w a : World} {p g : Nat} (h : w.grownBy a (some p)) (hg : w.heap.size ≤ g) (x y z : Value) : w.grownBy (((a.setCell ⟨g, 0, none⟩ x).setCell ⟨g, 1, none⟩ y).setCell ⟨g, 2, none⟩ z) (some p) :=
  grown_far (grown_far (grown_far h hg _ _) hg _ _) hg _ _
theorem cur3_far {w : World} {p g : Nat} {a : Option Addr} {n cap : Nat} (h : CurAt w p a n cap) (hg : p ≠ g) (x y z : Value) : CurAt (((w.setCell ⟨g, 0, none⟩ x).setCell ⟨g, 1, none⟩ y).setCell ⟨g, 2, none⟩ z) p a n cap :=
  ((h.far hg _ _).far hg _ _).far hg _ _
theorem sub_bd {k : Nat} (h : k < 12) : -9223372036854775808 ≤ (k : Int) - 3 ∧ (k : Int) - 3 ≤ 9223372036854775807 := by omega
theorem num3 (n : Int) (w : World) :
    Calls Tryd.prog 26 #[.int .i64 n] w fun e w' => e = .returned (.agg #[.int .i64 n, .int .i64 1, .string ⟨#[]⟩]) ∧ Below w.heap.size w w' := by
  go_enter Tryd.func26, Tryd.ntmps26
  go_wp2
  exact item_ret0 rfl rfl rfl (blk_new _ _ rfl) ⟨rfl, below1 w _⟩

set_option maxHeartbeats 8000000 in
set_option maxRecDepth 100000 in
theorem drawDraw (a : Option Addr) (n cap p B : Nat) (w : World) (hs : CodeAt B w a n) (hB : B ≤ p) (hc : CurAt w p a n cap) (hn : n ≤ 1048576) :
    Calls Tryd.prog 36 #[.pointer (some ⟨p, 0, none⟩)] w fun e w' => (∃ x : It, e = .returned (.agg #[.int .i64 x.n, .int .i64 x.d, .string x.t]) ∧ Nice x) ∧ CurAt w' p a n cap ∧ w.grownBy w' (some p) := by
  have hp := hc.lt
  have S := Lib.hid hs
  have C := Lib.hid hc
  clear hs hc
  go_enter Tryd.func36, Tryd.ntmps36
  go_wp2_with fail
  refine (drawBelow 12 (by omega) (by omega) a n cap p B _ (S.out.below ((Below.refl B w).alloc (by omega) _)) hB (C.out.below ((Below.refl _ w).alloc (Nat.le_refl _) _)) hn).mono ?_
  rintro e w1 ⟨⟨k, rfl, hk⟩, c1, g1⟩
  have C1 := Lib.hid c1
  have G1 := Lib.hid (grown_trans (grown_alloc (grown_refl w _) _) g1)
  have R1 := Lib.hid (grown_blk (g := w.heap.size) g1 (blk_new _ _ rfl) (by omega))
  clear c1 g1
  rcases (show k = 0 ∨ k = 1 ∨ k = 2 ∨ k = 3 ∨ 4 ≤ k by omega) with rfl | rfl | rfl | rfl | h4
  · obtain ⟨⟨r0, r1, r2⟩, q0, q1, q2⟩ := three R1.out
    have hl := C1.out.lt
    go_wp2
    exact item_ret rfl rfl rfl R1.out ⟨⟨_, rfl, nice_no⟩, cur3_far C1.out (by omega) _ _ _, set3_far G1.out (Nat.le_refl _) _ _ _⟩
  · go_wp2_with fail
    refine (drawBelow 13 (by omega) (by omega) a n cap p B _ (S.out.below (grown_below G1.out hB hp)) hB C1.out hn).mono ?_
    rintro e w2 ⟨⟨j, rfl, hj⟩, c2, g2⟩
    have C2 := Lib.hid c2
    have G2 := Lib.hid (grown_trans G1.out g2)
    have R2 := Lib.hid (grown_blk g2 R1.out (by omega))
    clear c2 g2
    go_wp2_with fail
    refine (drawBelow 6 (by omega) (by omega) a n cap p B _ (S.out.below (grown_below G2.out hB hp)) hB C2.out hn).mono ?_
    rintro e w3 ⟨⟨m, rfl, hm⟩, c3, g3⟩
    have C3 := Lib.hid c3
    have G3 := Lib.hid (grown_trans G2.out g3)
    have R3 := Lib.hid (grown_blk g3 R2.out (by omega))
    clear c3 g3
    go_wp2_with fail
    refine (specMake ((j : Int) - 6) (1 + (m : Int)) _ (by omega) (by omega)).mono ?_
    rintro e w4 ⟨rfl, hb⟩
    have C4 := Lib.hid (C3.out.below hb)
    have G4 := Lib.hid (grown_trans G3.out (grown_of_below hb))
    have R4 := Lib.hid (blk_below hb R3.out)
    clear hb
    obtain ⟨⟨r0, r1, r2⟩, q0, q1, q2⟩ := three R4.out
    have hl := C4.out.lt
    go_wp2
    exact item_ret rfl rfl rfl R4.out ⟨⟨_, rfl, nice_eta _ _⟩, cur3_far C4.out (by omega) _ _ _, set3_far G4.out (Nat.le_refl _) _ _ _⟩
  · go_wp2_with fail
    refine (drawBelow 13 (by omega) (by omega) a n cap p B _ (S.out.below (grown_below G1.out hB hp)) hB C1.out hn).mono ?_
    rintro e w2 ⟨⟨j, rfl, hj⟩, c2, g2⟩
    have C2 := Lib.hid c2
    have G2 := Lib.hid (grown_trans G1.out g2)
    have R2 := Lib.hid (grown_blk g2 R1.out (by omega))
    clear c2 g2
    go_wp2_with fail
    refine (drawBelow 6 (by omega) (by omega) a n cap p B _ (S.out.below (grown_below G2.out hB hp)) hB C2.out hn).mono ?_
    rintro e w3 ⟨⟨m, rfl, hm⟩, c3, g3⟩
    have C3 := Lib.hid c3
    have G3 := Lib.hid (grown_trans G2.out g3)
    have R3 := Lib.hid (grown_blk g3 R2.out (by omega))
    clear c3 g3
    go_wp2_with fail
    refine (specMake ((j : Int) - 6) (1 + (m : Int)) _ (by omega) (by omega)).mono ?_
    rintro e w4 ⟨rfl, hb⟩
    have C4 := Lib.hid (C3.out.below hb)
    have G4 := Lib.hid (grown_trans G3.out (grown_of_below hb))
    have R4 := Lib.hid (blk_below hb R3.out)
    clear hb
    obtain ⟨⟨r0, r1, r2⟩, q0, q1, q2⟩ := three R4.out
    have hl := C4.out.lt
    go_wp2
    exact item_ret rfl rfl rfl R4.out ⟨⟨_, rfl, nice_eta _ _⟩, cur3_far C4.out (by omega) _ _ _, set3_far G4.out (Nat.le_refl _) _ _ _⟩
  · go_wp2_with fail
    refine (drawPickI 5 w1.heap.size 5 (by omega) (by omega) a n cap p B _ (S.out.below (grown_below (grown_alloc G1.out _) hB hp)) hB (C1.out.below ((Below.refl _ w1).alloc (Nat.le_refl _) _)) hn (by have := C1.out.lt; omega) (int_at w1 [999999999, -999999999, 999999998, 65537, 100000] (by decide) _)).mono ?_
    rintro e w2 ⟨⟨x, rfl, hx0, hx1⟩, c2, g2⟩
    have C2 := Lib.hid c2
    have G2 := Lib.hid (grown_trans (grown_alloc G1.out _) g2)
    have R2 := Lib.hid (grown_blk g2 (blk_old R1.out) (by omega))
    clear c2 g2
    go_wp2_with fail
    refine (drawPickI 5 w2.heap.size 5 (by omega) (by omega) a n cap p B _ (S.out.below (grown_below (grown_alloc G2.out _) hB hp)) hB (C2.out.below ((Below.refl _ w2).alloc (Nat.le_refl _) _)) hn (by have := C2.out.lt; omega) (int_at w2 [1, 1, 999999999, 999999937, 2] (by decide) _)).mono ?_
    rintro e w3 ⟨⟨y, rfl, hy0, hy1⟩, c3, g3⟩
    have C3 := Lib.hid c3
    have G3 := Lib.hid (grown_trans (grown_alloc G2.out _) g3)
    have R3 := Lib.hid (grown_blk g3 (blk_old R2.out) (by omega))
    clear c3 g3
    go_wp2_with fail
    refine (specMake (x) (y) _ (by omega) (by omega)).mono ?_
    rintro e w4 ⟨rfl, hb⟩
    have C4 := Lib.hid (C3.out.below hb)
    have G4 := Lib.hid (grown_trans G3.out (grown_of_below hb))
    have R4 := Lib.hid (blk_below hb R3.out)
    clear hb
    obtain ⟨⟨r0, r1, r2⟩, q0, q1, q2⟩ := three R4.out
    have hl := C4.out.lt
    go_wp2
    exact item_ret rfl rfl rfl R4.out ⟨⟨_, rfl, nice_eta _ _⟩, cur3_far C4.out (by omega) _ _ _, set3_far G4.out (Nat.le_refl _) _ _ _⟩
  · have e0 : ((k : Int) == 0) = false := by simp; omega
    have e1 : ((k : Int) == 1) = false := by simp; omega
    have e2 : ((k : Int) == 2) = false := by simp; omega
    have e3 : ((k : Int) == 3) = false := by simp; omega
    go_wp2_with fail
    refine (drawBelow 12 (by omega) (by omega) a n cap p B _ (S.out.below (grown_below G1.out hB hp)) hB C1.out hn).mono ?_
    rintro e w2 ⟨⟨j, rfl, hj⟩, c2, g2⟩
    have C2 := Lib.hid c2
    have G2 := Lib.hid (grown_trans G1.out g2)
    have R2 := Lib.hid (grown_blk g2 R1.out (by omega))
    clear c2 g2
    go_wp2_with fail
    refine (num3 ((j : Int) - 3) _).mono ?_
    rintro e w3 ⟨rfl, hb⟩
    have C3 := Lib.hid (C2.out.below hb)
    have G3 := Lib.hid (grown_trans G2.out (grown_of_below hb))
    have R3 := Lib.hid (blk_below hb R2.out)
    clear hb
    obtain ⟨⟨r0, r1, r2⟩, q0, q1, q2⟩ := three R3.out
    have hl := C3.out.lt
    go_wp2
    exact item_ret rfl rfl rfl R3.out ⟨⟨_, rfl, nice_one _ (sub_bd hj).1 (sub_bd hj).2⟩, cur3_far C3.out (by omega) _ _ _, set3_far G3.out (Nat.le_refl _) _ _ _⟩

theorem blk_set1 {w : World} {a g i : Nat} {o : Obj} {v : Value} (h : w.heap[a]? = some o) (hne : a ≠ g) : (w.setCell ⟨g, i, none⟩ v).heap[a]? = some o := (Below.heap_setCell _ _ _ _ hne).trans h
set_option maxHeartbeats 8000000 in
set_option maxRecDepth 100000 in
theorem drawAny (a : Option Addr) (n cap p B : Nat) (w : World) (hs : CodeAt B w a n) (hB : B ≤ p) (hc : CurAt w p a n cap) (hn : n ≤ 1048576) :
    Calls Tryd.prog 18 #[.pointer (some ⟨p, 0, none⟩)] w fun e w' => (∃ x : It, e = .returned (.agg #[.int .i64 x.n, .int .i64 x.d, .string x.t]) ∧ Nice x) ∧ CurAt w' p a n cap ∧ w.grownBy w' (some p) := by
  have hp := hc.lt
  have S := Lib.hid hs
  have C := Lib.hid hc
  clear hs hc
  go_enter Tryd.func18, Tryd.ntmps18
  go_wp2_with fail
  refine (drawDraw a n cap p B _ (S.out.below ((Below.refl B w).alloc (by omega) _)) hB (C.out.below ((Below.refl _ w).alloc (Nat.le_refl _) _)) hn).mono ?_
  rintro e w1 ⟨⟨x, rfl, hx⟩, c1, g1⟩
  have C1 := Lib.hid c1
  have G1 := Lib.hid (grown_trans (grown_alloc (grown_refl w _) _) g1)
  have R1 := Lib.hid (grown_blk (g := w.heap.size) g1 (blk_new _ _ rfl) (by omega))
  have N := Lib.hid hx
  have hw1 : w.heap.size < w1.heap.size := (Array.getElem?_eq_some_iff.1 R1.out).1
  clear c1 g1 hx
  go_wp2_with fail
  refine (drawBelow 20 (by omega) (by omega) a n cap p B _ (S.out.below (grown_below (grown_alloc G1.out _) hB hp)) hB (C1.out.below ((Below.refl _ w1).alloc (Nat.le_refl _) _)) hn).mono ?_
  rintro e w2 ⟨⟨k, rfl, hk⟩, c2, g2⟩
  have C2 := Lib.hid c2
  have G2 := Lib.hid (grown_trans (grown_alloc G1.out _) g2)
  have R2 := Lib.hid (grown_blk g2 (blk_old R1.out) (by omega))
  have X2 := Lib.hid (grown_blk (g := w1.heap.size) g2 (blk_new _ _ rfl) (by omega))
  clear c2 g2
  rcases (show k = 0 ∨ k = 1 ∨ k = 2 ∨ 3 ≤ k by omega) with rfl | rfl | rfl | h3
  · obtain ⟨⟨x0, x1, x2⟩, y0, y1, y2⟩ := three X2.out
    obtain ⟨⟨r0, r1, r2⟩, q0, q1, q2⟩ := three R2.out
    have hl := C2.out.lt
    have hgl : w.heap.size < w2.heap.size := (Array.getElem?_eq_some_iff.1 R2.out).1
    have hxl : w1.heap.size < w2.heap.size := (Array.getElem?_eq_some_iff.1 X2.out).1
    go_wp2
    exact item_ret rfl rfl rfl (blk_set1 R2.out (by omega)) ⟨⟨⟨x.n, x.d, ⟨#[97]⟩⟩, rfl, ⟨N.out.1, N.out.2.1, by show (1 : Nat) ≤ 21; decide⟩⟩, cur3_far (C2.out.far (by omega) _ _) (by omega) _ _ _, set3_far (grown_far G2.out (by omega) _ _) (Nat.le_refl _) _ _ _⟩
  · go_wp2_with fail
    refine (drawPickI 5 w2.heap.size 5 (by omega) (by omega) a n cap p B _ (S.out.below (grown_below (grown_alloc G2.out _) hB hp)) hB (C2.out.below ((Below.refl _ w2).alloc (Nat.le_refl _) _)) hn (by have := C2.out.lt; omega) (int_at w2 [0, -1, 2, 1000000000, -9223372036854775808] (by decide) _)).mono ?_
    rintro e w3 ⟨⟨v, rfl, hv0, hv1⟩, c3, g3⟩
    have C3 := Lib.hid c3
    have G3 := Lib.hid (grown_trans (grown_alloc G2.out _) g3)
    have R3 := Lib.hid (grown_blk g3 (blk_old R2.out) (by omega))
    have X3 := Lib.hid (grown_blk g3 (blk_old X2.out) (by omega))
    clear c3 g3
    obtain ⟨⟨x0, x1, x2⟩, y0, y1, y2⟩ := three X3.out
    obtain ⟨⟨r0, r1, r2⟩, q0, q1, q2⟩ := three R3.out
    have hl := C3.out.lt
    have hgl : w.heap.size < w3.heap.size := (Array.getElem?_eq_some_iff.1 R3.out).1
    have hxl : w1.heap.size < w3.heap.size := (Array.getElem?_eq_some_iff.1 X3.out).1
    go_wp2
    exact item_ret rfl rfl rfl (blk_set1 R3.out (by omega)) ⟨⟨⟨x.n, v, x.t⟩, rfl, ⟨N.out.1, ⟨hv0, hv1⟩, N.out.2.2⟩⟩, cur3_far (C3.out.far (by omega) _ _) (by omega) _ _ _, set3_far (grown_far G3.out (by omega) _ _) (Nat.le_refl _) _ _ _⟩
  · go_wp2_with fail
    refine (drawPickI 4 w2.heap.size 4 (by omega) (by omega) a n cap p B _ (S.out.below (grown_below (grown_alloc G2.out _) hB hp)) hB (C2.out.below ((Below.refl _ w2).alloc (Nat.le_refl _) _)) hn (by have := C2.out.lt; omega) (int_at w2 [0, 1000000000, -9223372036854775808, 9223372036854775807] (by decide) _)).mono ?_
    rintro e w3 ⟨⟨v, rfl, hv0, hv1⟩, c3, g3⟩
    have C3 := Lib.hid c3
    have G3 := Lib.hid (grown_trans (grown_alloc G2.out _) g3)
    have R3 := Lib.hid (grown_blk g3 (blk_old R2.out) (by omega))
    have X3 := Lib.hid (grown_blk g3 (blk_old X2.out) (by omega))
    clear c3 g3
    obtain ⟨⟨x0, x1, x2⟩, y0, y1, y2⟩ := three X3.out
    obtain ⟨⟨r0, r1, r2⟩, q0, q1, q2⟩ := three R3.out
    have hl := C3.out.lt
    have hgl : w.heap.size < w3.heap.size := (Array.getElem?_eq_some_iff.1 R3.out).1
    have hxl : w1.heap.size < w3.heap.size := (Array.getElem?_eq_some_iff.1 X3.out).1
    go_wp2
    exact item_ret rfl rfl rfl (blk_set1 R3.out (by omega)) ⟨⟨⟨v, x.d, x.t⟩, rfl, ⟨⟨hv0, hv1⟩, N.out.2.1, N.out.2.2⟩⟩, cur3_far (C3.out.far (by omega) _ _) (by omega) _ _ _, set3_far (grown_far G3.out (by omega) _ _) (Nat.le_refl _) _ _ _⟩
  · have e0 : ((k : Int) == 0) = false := by simp; omega
    have e1 : ((k : Int) == 1) = false := by simp; omega
    have e2 : ((k : Int) == 2) = false := by simp; omega
    obtain ⟨⟨x0, x1, x2⟩, y0, y1, y2⟩ := three X2.out
    obtain ⟨⟨r0, r1, r2⟩, q0, q1, q2⟩ := three R2.out
    have hl := C2.out.lt
    have hgl : w.heap.size < w2.heap.size := (Array.getElem?_eq_some_iff.1 R2.out).1
    have hxl : w1.heap.size < w2.heap.size := (Array.getElem?_eq_some_iff.1 X2.out).1
    go_wp2
    exact item_ret rfl rfl rfl R2.out ⟨⟨x, rfl, N.out⟩, cur3_far C2.out (by omega) _ _ _, set3_far G2.out (Nat.le_refl _) _ _ _⟩

theorem results_cell2 {fn : Func} {p u : Tmp} {s t : TypeId} (h : fn.results = #[.cell p s, .cell u t]) (tmps : Array Value) (P : Program) (w : World) :
    (results fn tmps).run P w =
      ((asAddr (tmps.getD p undef)).run P w).andThen fun a w₁ => ((loadVar s a).run P w₁).andThen fun v w₂ => ((asAddr (tmps.getD u undef)).run P w₂).andThen fun b w₃ => ((loadVar t b).run P w₃).andThen fun v' w₄ => .ok (.tuple #[v, v']) w₄ := by
  simp only [results, h]
  simp [Sem.run_bind, Result.andThen]
/-- Two items in the results' blocks. -/
theorem item_ret22 {fn : Func} {R : Ending → World → Prop} {act : Act} {w : World} {g k : Nat} {p u : Tmp} {a b c d e f : Value} {t s : TypeId} {fr fs : Nat × Nat}
    (hfn : fn.results = #[.cell p 25, .cell u 25]) (hp : act.tmps.getD p undef = .pointer (some ⟨g, 0, none⟩)) (hq : act.tmps.getD u undef = .pointer (some ⟨k, 0, none⟩)) (hd : act.defers = [])
    (hg : w.heap[g]? = some (.cells #[a, b, c] t fr)) (hk : w.heap[k]? = some (.cells #[d, e, f] s fs))
    (hR : R (.returned (.tuple #[.agg #[a, b, c], .agg #[d, e, f]])) w) : bodyPost Tryd.prog fn R .ret act w :=
  bodyPost_ret (by
    have e1 := run_loadVar_row w g t 25 #[a, b, c] fr _ hg Tryd.underlying25 rfl infoItem
    have e2 := run_loadVar_row w k s 25 #[d, e, f] fs _ hk Tryd.underlying25 rfl infoItem
    rw [results_cell2 hfn, hp, hq]
    show ((loadVar 25 ⟨g, 0, none⟩).run Tryd.prog w).andThen _ = _
    rw [e1]
    show ((loadVar 25 ⟨k, 0, none⟩).run Tryd.prog w).andThen _ = _
    rw [e2]; rfl) hd hR
def TwoPost (w : World) (e : Ending) (w' : World) : Prop := (∃ x y : It, e = .returned (.tuple #[.agg #[.int .i64 x.n, .int .i64 x.d, .string x.t], .agg #[.int .i64 y.n, .int .i64 y.d, .string y.t]]) ∧ Nice x ∧ Nice y) ∧ Below w.heap.size w w'
theorem two_post {w w' : World} {x y : It} (hx : Nice x) (hy : Nice y) (hb : Below w.heap.size w w') : TwoPost w (.returned (.tuple #[.agg #[.int .i64 x.n, .int .i64 x.d, .string x.t], .agg #[.int .i64 y.n, .int .i64 y.d, .string y.t]])) w' := ⟨⟨x, y, rfl, hx, hy⟩, hb⟩
set_option maxHeartbeats 8000000 in
set_option maxRecDepth 100000 in
theorem drawTwo (a : Option Addr) (n cap : Nat) (w : World) (hs : CodeAt w.heap.size w a n) (hn : n ≤ 1048576) :
    Calls Tryd.prog 35 #[.slice a n cap] w (TwoPost w) := by
  have S := Lib.hid hs
  clear hs
  go_enter Tryd.func35, Tryd.ntmps35
  go_wp2_with fail
  refine (drawNew a n cap _ ((S.out.below (below2 w _ _)).mono (by simp; omega)) hn).mono ?_
  rintro e w1 ⟨rfl, c1, b1⟩
  have B1 := Lib.hid (below_then (below2 w _ _) b1)
  have P0 := Lib.hid (blk_below (g := w.heap.size) b1 (blk_old (blk_new _ _ rfl)))
  have Q0 := Lib.hid (blk_below (g := w.heap.size + 1) b1 (blk_new _ _ (by simp)))
  have hp0 : ((w.alloc (.cells #[.int .i64 0, .int .i64 0, .string ⟨#[]⟩] 25)).alloc (.cells #[.int .i64 0, .int .i64 0, .string ⟨#[]⟩] 25)).heap.size = w.heap.size + 2 := by simp
  rw [hp0] at c1
  have hpl := c1.lt
  obtain ⟨p, hp⟩ : ∃ p, w.heap.size + 2 = p := ⟨_, rfl⟩
  rw [hp] at c1 hpl
  have C1 := Lib.hid c1
  have G1 := Lib.hid (grown_refl w1 (some p))
  clear c1 b1 hp0
  have eaddr : w.heap.size + 1 + 1 = p := hp
  simp only [World.size_alloc, eaddr]
  have hB : w.heap.size ≤ p := by omega
  have S1 := Lib.hid (S.out.below B1.out)
  go_wp2_with fail
  refine (drawAny a n cap p w.heap.size w1 S1.out hB C1.out hn).mono ?_
  rintro e w2 ⟨⟨x, rfl, hx⟩, c2, g2⟩
  have C2 := Lib.hid c2
  have G2 := Lib.hid g2
  have P2 := Lib.hid (grown_blk g2 P0.out (by omega))
  have Q2 := Lib.hid (grown_blk g2 Q0.out (by omega))
  have NX := Lib.hid hx
  clear c2 g2 hx
  go_wp2_with fail
  refine (drawAny a n cap p w.heap.size _ (S1.out.below (grown_below (grown_alloc G2.out _) hB hpl)) hB (C2.out.below ((Below.refl _ w2).alloc (Nat.le_refl _) _)) hn).mono ?_
  rintro e w3 ⟨⟨y, rfl, hy⟩, c3, g3⟩
  have C3 := Lib.hid c3
  have G3 := Lib.hid (grown_trans (grown_alloc G2.out _) g3)
  have P3 := Lib.hid (grown_blk g3 (blk_old P2.out) (by omega))
  have Q3 := Lib.hid (grown_blk g3 (blk_old Q2.out) (by omega))
  have hl2 := C2.out.lt
  have X3 := Lib.hid (grown_blk (g := w2.heap.size) g3 (blk_new _ _ rfl) (by omega))
  have hx3 : w2.heap.size < w3.heap.size := (Array.getElem?_eq_some_iff.1 X3.out).1
  have NY := Lib.hid hy
  clear c3 g3 hy
  go_wp2_with fail
  refine (drawOnce 6 (by omega) (by omega) a n cap p w.heap.size _ (S1.out.below (grown_below (grown_alloc G3.out _) hB hpl)) hB (C3.out.below ((Below.refl _ w3).alloc (Nat.le_refl _) _)) hn).mono ?_
  rintro e w4 ⟨⟨b, rfl⟩, c4, g4⟩
  have hl3 := C3.out.lt
  have G4 := Lib.hid (grown_trans (grown_alloc G3.out _) g4)
  have P4 := Lib.hid (grown_blk g4 (blk_old P3.out) (by omega))
  have Q4 := Lib.hid (grown_blk g4 (blk_old Q3.out) (by omega))
  have X4 := Lib.hid (grown_blk g4 (blk_old X3.out) (by omega))
  have Y4 := Lib.hid (grown_blk (g := w3.heap.size) g4 (blk_new _ _ rfl) (by omega))
  have hy4 : w3.heap.size < w4.heap.size := (Array.getElem?_eq_some_iff.1 Y4.out).1
  have B4 := Lib.hid (B1.out.trans (grown_below G4.out hB hpl))
  have hw2 := G2.out.size
  clear c4 g4
  obtain ⟨⟨p0, p1, p2⟩, pf0, pf1, pf2⟩ := three P4.out
  obtain ⟨⟨q0, q1, q2⟩, qf0, qf1, qf2⟩ := three Q4.out
  cases b
  · go_wp2_with fail
    go_region_held3 (fun w' => w'.cell? ⟨w2.heap.size, 0, none⟩ = some (.int .i64 x.n) ∧ w'.cell? ⟨w2.heap.size, 1, none⟩ = some (.int .i64 x.d) ∧ w'.cell? ⟨w2.heap.size, 2, none⟩ = some (.string x.t) ∧ w'.cell? ⟨w3.heap.size, 0, none⟩ = some (.int .i64 y.n) ∧ w'.cell? ⟨w3.heap.size, 1, none⟩ = some (.int .i64 y.d) ∧ w'.cell? ⟨w3.heap.size, 2, none⟩ = some (.string y.t)) (first | with_reducible exact six (blk_drew X4.out) (blk_drew Y4.out) | with_reducible exact six X4.out Y4.out | ((with_reducible refine six (blk_drew (blk_set3' X4.out ?_)) (blk_drew (blk_set3' Y4.out ?_))) <;> omega) | ((with_reducible refine six (blk_set3' X4.out ?_) (blk_set3' Y4.out ?_)) <;> omega) | ((with_reducible refine six (blk_drew (blk_set3' (blk_set3' X4.out ?_) ?_)) (blk_drew (blk_set3' (blk_set3' Y4.out ?_) ?_))) <;> omega) | ((with_reducible refine six (blk_set3' (blk_set3' X4.out ?_) ?_) (blk_set3' (blk_set3' Y4.out ?_) ?_)) <;> omega)) (fail)
    all_goals
      go_wp2
      exact item_ret22 rfl rfl rfl rfl (blk_drew (blk_set3' (cells_set3 P4.out) (by omega))) (blk_drew (cells_set3 (blk_set3' Q4.out (by omega)))) (two_post NX.out NY.out (below_drew' (below_three (below_three B4.out (by omega) _ _ _) (by omega) _ _ _)))
  · go_wp2_with fail
    go_region_held3 (fun w' => w'.cell? ⟨w2.heap.size, 0, none⟩ = some (.int .i64 x.n) ∧ w'.cell? ⟨w2.heap.size, 1, none⟩ = some (.int .i64 x.d) ∧ w'.cell? ⟨w2.heap.size, 2, none⟩ = some (.string x.t) ∧ w'.cell? ⟨w3.heap.size, 0, none⟩ = some (.int .i64 y.n) ∧ w'.cell? ⟨w3.heap.size, 1, none⟩ = some (.int .i64 y.d) ∧ w'.cell? ⟨w3.heap.size, 2, none⟩ = some (.string y.t)) (first | with_reducible exact six (blk_drew X4.out) (blk_drew Y4.out) | with_reducible exact six X4.out Y4.out | ((with_reducible refine six (blk_drew (blk_set3' X4.out ?_)) (blk_drew (blk_set3' Y4.out ?_))) <;> omega) | ((with_reducible refine six (blk_set3' X4.out ?_) (blk_set3' Y4.out ?_)) <;> omega) | ((with_reducible refine six (blk_drew (blk_set3' (blk_set3' X4.out ?_) ?_)) (blk_drew (blk_set3' (blk_set3' Y4.out ?_) ?_))) <;> omega) | ((with_reducible refine six (blk_set3' (blk_set3' X4.out ?_) ?_) (blk_set3' (blk_set3' Y4.out ?_) ?_)) <;> omega)) (fail)
    all_goals
      go_wp2
      exact item_ret22 rfl rfl rfl rfl (blk_drew (blk_set3' (cells_set3 P4.out) (by omega))) (blk_drew (cells_set3 (blk_set3' Q4.out (by omega)))) (two_post NX.out NX.out (below_drew' (below_three (below_three B4.out (by omega) _ _ _) (by omega) _ _ _)))

set_option maxHeartbeats 4000000 in
theorem drawCompareNumbers (a : Option Addr) (n cap : Nat) (w : World) (hs : CodeAt w.heap.size w a n) (hn : n ≤ 1048576) :
    Calls Tryd.prog 15 #[.slice a n cap] w (TwoPost w) := by
  have S := Lib.hid hs
  clear hs
  go_enter Tryd.func15, Tryd.ntmps15
  go_wp2_with fail
  refine (drawTwo a n cap _ ((S.out.below (below2 w _ _)).mono (by simp; omega)) hn).mono ?_
  rintro e w1 ⟨⟨x, y, rfl, hx, hy⟩, hb⟩
  have B1 := Lib.hid (below_then (below2 w _ _) hb)
  have P1 := Lib.hid (blk_below (g := w.heap.size) hb (blk_old (blk_new _ _ rfl)))
  have Q1 := Lib.hid (blk_below (g := w.heap.size + 1) hb (blk_new _ _ (by simp)))
  have hz := hb.size
  simp only [World.size_alloc] at hz
  have hz0 : w.heap.size < w1.heap.size := by omega
  have hz1 : w.heap.size + 1 < w1.heap.size := by omega
  have NX := Lib.hid hx
  have NY := Lib.hid hy
  clear hb hx hy
  obtain ⟨⟨p0, p1, p2⟩, pf0, pf1, pf2⟩ := three P1.out
  obtain ⟨⟨q0, q1, q2⟩, qf0, qf1, qf2⟩ := three Q1.out
  go_wp2_with fail
  obtain ⟨W, hW⟩ : ∃ W, (w1.alloc (.cells #[.int .i64 x.n, .int .i64 x.d, .string x.t] 25)).alloc (.cells #[.int .i64 y.n, .int .i64 y.d, .string y.t] 25) = W := ⟨_, rfl⟩
  have X4 : Hid (W.heap[w1.heap.size]? = _) := Lib.hid (hW ▸ blk_old (blk_new w1 _ rfl))
  have Y4 : Hid (W.heap[w1.heap.size + 1]? = _) := Lib.hid (hW ▸ blk_new _ _ (by simp))
  have P4 : Hid (W.heap[w.heap.size]? = _) := Lib.hid (hW ▸ blk_old (blk_old P1.out))
  have Q4 : Hid (W.heap[w.heap.size + 1]? = _) := Lib.hid (hW ▸ blk_old (blk_old Q1.out))
  have B4 : Hid (Below w.heap.size w W) := Lib.hid (hW ▸ below_then B1.out (below2 w1 _ _))
  rw [hW]
  clear hW p0 p1 p2 pf0 pf1 pf2 q0 q1 q2 qf0 qf1 qf2
  obtain ⟨⟨p0, p1, p2⟩, pf0, pf1, pf2⟩ := three P4.out
  obtain ⟨⟨q0, q1, q2⟩, qf0, qf1, qf2⟩ := three Q4.out
  go_region_held3 (fun w' => w'.cell? ⟨w1.heap.size, 0, none⟩ = some (.int .i64 x.n) ∧ w'.cell? ⟨w1.heap.size, 1, none⟩ = some (.int .i64 x.d) ∧ w'.cell? ⟨w1.heap.size, 2, none⟩ = some (.string x.t) ∧ w'.cell? ⟨w1.heap.size + 1, 0, none⟩ = some (.int .i64 y.n) ∧ w'.cell? ⟨w1.heap.size + 1, 1, none⟩ = some (.int .i64 y.d) ∧ w'.cell? ⟨w1.heap.size + 1, 2, none⟩ = some (.string y.t)) (first | with_reducible exact six (blk_drew X4.out) (blk_drew Y4.out) | with_reducible exact six X4.out Y4.out | ((with_reducible refine six (blk_drew (blk_set3' X4.out ?_)) (blk_drew (blk_set3' Y4.out ?_))) <;> omega) | ((with_reducible refine six (blk_set3' X4.out ?_) (blk_set3' Y4.out ?_)) <;> omega) | ((with_reducible refine six (blk_drew (blk_set3' (blk_set3' X4.out ?_) ?_)) (blk_drew (blk_set3' (blk_set3' Y4.out ?_) ?_))) <;> omega) | ((with_reducible refine six (blk_set3' (blk_set3' X4.out ?_) ?_) (blk_set3' (blk_set3' Y4.out ?_) ?_)) <;> omega)) (fail)
  all_goals
    go_wp2
    exact item_ret22 rfl rfl rfl rfl (blk_drew (blk_set3' (cells_set3 P4.out) (by omega))) (blk_drew (cells_set3 (blk_set3' Q4.out (by omega)))) (two_post NX.out NY.out (below_drew' (below_three (below_three B4.out (by omega) _ _ _) (by omega) _ _ _)))
set_option maxHeartbeats 4000000 in
theorem drawFormatNumber (a : Option Addr) (n cap : Nat) (w : World) (hs : CodeAt w.heap.size w a n) (hn : n ≤ 1048576) :
    Calls Tryd.prog 5 #[.slice a n cap] w fun e w' => (∃ x : It, e = .returned (.agg #[.int .i64 x.n, .int .i64 x.d, .string x.t]) ∧ Nice x) ∧ Below w.heap.size w w' := by
  have S := Lib.hid hs
  clear hs
  go_enter Tryd.func5, Tryd.ntmps5
  go_wp2_with fail
  refine (drawNew a n cap _ ((S.out.below (below1 w _)).mono (by simp)) hn).mono ?_
  rintro e w1 ⟨rfl, c1, b1⟩
  have B1 := Lib.hid (below_then (below1 w _) b1)
  have P0 := Lib.hid (blk_below (g := w.heap.size) b1 (blk_new _ _ rfl))
  simp only [World.size_alloc] at c1 ⊢
  have C1 := Lib.hid c1
  have hpl := c1.lt
  have S1 := Lib.hid (S.out.below B1.out)
  clear c1 b1
  go_wp2_with fail
  refine (drawAny a n cap (w.heap.size + 1) w.heap.size w1 S1.out (by omega) C1.out hn).mono ?_
  rintro e w2 ⟨⟨x, rfl, hx⟩, _, g2⟩
  have P2 := Lib.hid (grown_blk g2 P0.out (by omega))
  have B2 := Lib.hid (B1.out.trans (grown_below g2 (by omega) hpl))
  have NX := Lib.hid hx
  clear g2 hx
  obtain ⟨⟨p0, p1, p2⟩, pf0, pf1, pf2⟩ := three P2.out
  go_wp2
  exact item_ret rfl rfl rfl P2.out ⟨⟨_, rfl, NX.out⟩, below_three B2.out (by omega) _ _ _⟩
end Go.Proofs.YtmglolpiekbnpaaDoor
