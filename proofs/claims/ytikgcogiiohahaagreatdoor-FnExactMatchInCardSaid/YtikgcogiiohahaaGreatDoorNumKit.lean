/- Small lemmas for functions that take and return items. -/
import Derived.Test.YtikgcogiiohahaaGreatDoorRows
import Derived.WalkKit
import Derived.Laws.Rows
import Derived.Laws.ResultCell
import Derived.Lib.SmallJoins
import Derived.Below
import Derived.Lib.Hide
namespace Go.Proofs.YtikgcogiiohahaaGreatDoor
set_option maxRecDepth 100000
open Go.RowKit

theorem bcell {W w1 : World} (hb : Below W.heap.size W w1) : (∀ b o, b < W.heap.size → w1.cell? ⟨b, o, none⟩ = W.cell? ⟨b, o, none⟩) ∧ (∀ b o, b < W.heap.size → w1.frozen? ⟨b, o, none⟩ = W.frozen? ⟨b, o, none⟩) :=
  ⟨fun b o h => hb.cell (p := ⟨b, o, none⟩) h, fun b o h => hb.frozen (p := ⟨b, o, none⟩) h⟩
theorem below_drewN' {B : Nat} {a w : World} (h : Below B a w) (n : Nat) : Below B a (w.drewN n) := ⟨h.os, h.tape, h.output, h.size, h.block⟩
theorem below_drew' {B : Nat} {a w : World} (h : Below B a w) : Below B a w.drew := ⟨h.os, h.tape, h.output, h.size, h.block⟩
theorem blk_drew {w : World} {g : Nat} {o : Option Obj} (h : w.heap[g]? = o) : w.drew.heap[g]? = o := h
theorem blk_drewN {w : World} {n g : Nat} {o : Option Obj} (h : w.heap[g]? = o) : (w.drewN n).heap[g]? = o := h
theorem blk_old {w : World} {g : Nat} {o p : Obj} (h : w.heap[g]? = some o) : (w.alloc p).heap[g]? = some o := by
  rw [Below.heap_alloc w p g (Array.getElem?_eq_some_iff.1 h).1]; exact h
theorem blk_new (w : World) (o : Obj) {g : Nat} (hg : g = w.heap.size) : (w.alloc o).heap[g]? = some o := by
  subst hg; exact (MapKept.heap_alloc w o).1
theorem blk_below {W w1 : World} {g : Nat} {o : Obj} (hb : Below W.heap.size W w1) (h : W.heap[g]? = some o) : w1.heap[g]? = some o := by
  rw [hb.block g (Array.getElem?_eq_some_iff.1 h).1]; exact h
theorem cellOf {w : World} {b i : Nat} {C : Array Value} {t : TypeId} {v : Value} (h : w.heap[b]? = some (.cells C t (0, 0))) (hv : C[i]? = some v) : w.cell? ⟨b, i, none⟩ = some v := by
  unfold World.cell?; simp only [h]; exact hv
theorem freeOf {w : World} {b i : Nat} {C : Array Value} {t : TypeId} (h : w.heap[b]? = some (.cells C t (0, 0))) : w.frozen? ⟨b, i, none⟩ = false := by
  unfold World.frozen?; simp only [h]; simp
/-- All that a store into the three cells of a block asks. -/
theorem three {w : World} {b : Nat} {x y z : Value} {t : TypeId} (h : w.heap[b]? = some (.cells #[x, y, z] t (0, 0))) :
    (w.cell? ⟨b, 0, none⟩ = some x ∧ w.cell? ⟨b, 1, none⟩ = some y ∧ w.cell? ⟨b, 2, none⟩ = some z) ∧ (w.frozen? ⟨b, 0, none⟩ = false ∧ w.frozen? ⟨b, 1, none⟩ = false ∧ w.frozen? ⟨b, 2, none⟩ = false) :=
  ⟨⟨cellOf h rfl, cellOf h rfl, cellOf h rfl⟩, freeOf h, freeOf h, freeOf h⟩
theorem first_below {W W' w3 : World} (hb : Below W'.heap.size W' w3) (hd : Below W.heap.size W W') : Below W.heap.size W w3 := hd.trans (hb.mono hd.size)
theorem six {w : World} {a b : Nat} {x y z u v r : Value} {t s : TypeId} (h : w.heap[a]? = some (.cells #[x, y, z] t (0, 0))) (k : w.heap[b]? = some (.cells #[u, v, r] s (0, 0))) :
    w.cell? ⟨a, 0, none⟩ = some x ∧ w.cell? ⟨a, 1, none⟩ = some y ∧ w.cell? ⟨a, 2, none⟩ = some z ∧ w.cell? ⟨b, 0, none⟩ = some u ∧ w.cell? ⟨b, 1, none⟩ = some v ∧ w.cell? ⟨b, 2, none⟩ = some r :=
  ⟨cellOf h rfl, cellOf h rfl, cellOf h rfl, cellOf k rfl, cellOf k rfl, cellOf k rfl⟩
/-- Steps between two calls: a draw, a new block, both. -/
inductive Step (W : World) : World → Prop
  | same : Step W W
  | drew : Step W W.drew
  | alloc (o : Obj) : Step W (W.alloc o)
  | both (o : Obj) : Step W (W.drew.alloc o)
  | swap (o : Obj) : Step W (W.alloc o).drew
theorem Step.below {W W' : World} (h : Step W W') : Below W.heap.size W W' := by
  cases h
  · exact Below.refl _ _
  · exact below_drew' (Below.refl _ _)
  · exact (Below.refl _ _).alloc (Nat.le_refl _) _
  · exact (below_drew' (Below.refl _ _)).alloc (Nat.le_refl _) _
  · exact below_drew' ((Below.refl _ _).alloc (Nat.le_refl _) _)
theorem blk_step {W W' w1 : World} {g : Nat} {o : Obj} (hb : Below W'.heap.size W' w1) (s : Step W W') (h : W.heap[g]? = some o) : w1.heap[g]? = some o :=
  blk_below hb (blk_below s.below h)
theorem below_step {B : Nat} {w0 W W' w1 : World} (h : Below B w0 W) (s : Step W W') (hb : Below W'.heap.size W' w1) (hB : B ≤ W.heap.size) : Below B w0 w1 :=
  (h.trans (s.below.mono hB)).trans (hb.mono (Nat.le_trans hB s.below.size))
theorem blk_set3 {w : World} {a g : Nat} {o : Obj} {x y z : Value} (h : w.heap[a]? = some o) (hg : a < g) : (((w.setCell ⟨g, 0, none⟩ x).setCell ⟨g, 1, none⟩ y).setCell ⟨g, 2, none⟩ z).heap[a]? = some o := by
  rw [Below.heap_setCell _ _ _ _ (show a ≠ g by omega), Below.heap_setCell _ _ _ _ (show a ≠ g by omega), Below.heap_setCell _ _ _ _ (show a ≠ g by omega)]; exact h
theorem infoItem : (Tryz.prog.info? 45).map (·.size) = some 3 := by kernel_rfl
/-- An item that was stored into the result's block. -/
theorem item_ret {fn : Func} {R : Ending → World → Prop} {act : Act} {w : World} {g : Nat} {p : Tmp} {x y z a b c : Value} {t : TypeId} {fr : Nat × Nat}
    (hfn : fn.results = #[.cell p 45]) (hp : act.tmps.getD p undef = .pointer (some ⟨g, 0, none⟩)) (hd : act.defers = []) (hg : w.heap[g]? = some (.cells #[x, y, z] t fr))
    (hR : R (.returned (.agg #[a, b, c])) (((w.setCell ⟨g, 0, none⟩ a).setCell ⟨g, 1, none⟩ b).setCell ⟨g, 2, none⟩ c)) :
    bodyPost Tryz.prog fn R .ret act (((w.setCell ⟨g, 0, none⟩ a).setCell ⟨g, 1, none⟩ b).setCell ⟨g, 2, none⟩ c) :=
  bodyPost_ret (results_cell_row hfn _ _ g t #[a, b, c] fr _ hp (Joins.block_setCell (Joins.block_setCell (Joins.block_setCell hg a) b) c) Tryz.underlying45 rfl infoItem) hd hR
/-- An item that lies in the result's block as it was made. -/
theorem item_ret0 {fn : Func} {R : Ending → World → Prop} {act : Act} {w : World} {g : Nat} {p : Tmp} {a b c : Value} {t : TypeId} {fr : Nat × Nat}
    (hfn : fn.results = #[.cell p 45]) (hp : act.tmps.getD p undef = .pointer (some ⟨g, 0, none⟩)) (hd : act.defers = []) (hg : w.heap[g]? = some (.cells #[a, b, c] t fr))
    (hR : R (.returned (.agg #[a, b, c])) w) : bodyPost Tryz.prog fn R .ret act w :=
  bodyPost_ret (results_cell_row hfn _ _ g t #[a, b, c] fr _ hp hg Tryz.underlying45 rfl infoItem) hd hR
theorem cells_set3 {w : World} {g : Nat} {x y z a b c : Value} {t : TypeId} (hg : w.heap[g]? = some (.cells #[x, y, z] t (0, 0))) :
    (((w.setCell ⟨g, 0, none⟩ a).setCell ⟨g, 1, none⟩ b).setCell ⟨g, 2, none⟩ c).heap[g]? = some (.cells #[a, b, c] t (0, 0)) :=
  Joins.block_setCell (Joins.block_setCell (Joins.block_setCell hg a) b) c
theorem blk_set3' {w : World} {a g : Nat} {o : Obj} {x y z : Value} (h : w.heap[a]? = some o) (hg : a ≠ g) : (((w.setCell ⟨g, 0, none⟩ x).setCell ⟨g, 1, none⟩ y).setCell ⟨g, 2, none⟩ z).heap[a]? = some o := by
  rw [Below.heap_setCell _ _ _ _ hg, Below.heap_setCell _ _ _ _ hg, Below.heap_setCell _ _ _ _ hg]; exact h
set_option maxRecDepth 100000 in
/-- An item in the first result's block, and a second result. -/
theorem item_ret2 {fn : Func} {R : Ending → World → Prop} {act : Act} {w : World} {g : Nat} {p u : Tmp} {a b c v : Value} {t : TypeId} {fr : Nat × Nat}
    (hfn : fn.results = #[.cell p 45, .tmp u]) (hp : act.tmps.getD p undef = .pointer (some ⟨g, 0, none⟩)) (hv : act.tmps.getD u undef = v) (hd : act.defers = []) (hg : w.heap[g]? = some (.cells #[a, b, c] t fr))
    (hR : R (.returned (.tuple #[.agg #[a, b, c], v])) w) : bodyPost Tryz.prog fn R .ret act w :=
  bodyPost_ret (by
    have e := run_loadVar_row w g t 45 #[a, b, c] fr _ hg Tryz.underlying45 rfl infoItem
    rw [results_cell_tmp hfn, hp, hv]
    show ((loadVar 45 ⟨g, 0, none⟩).run Tryz.prog w).andThen _ = _
    rw [e]; rfl) hd hR
theorem below1 (w : World) (a : Obj) : Below w.heap.size w (w.alloc a) := (Below.refl _ _).alloc (Nat.le_refl _) _
theorem below2 (w : World) (a b : Obj) : Below w.heap.size w ((w.alloc a).alloc b) := (below1 w a).alloc (by simp) _
theorem below3 (w : World) (a b c : Obj) : Below w.heap.size w (((w.alloc a).alloc b).alloc c) := (below2 w a b).alloc (by simp; omega) _
theorem below_then {w W w1 : World} (h : Below w.heap.size w W) (hb : Below W.heap.size W w1) : Below w.heap.size w w1 := h.trans (hb.mono h.size)
theorem below_three {B : Nat} {a w : World} (h : Below B a w) {g : Nat} (hg : B ≤ g) (x y z : Value) : Below B a (((w.setCell ⟨g, 0, none⟩ x).setCell ⟨g, 1, none⟩ y).setCell ⟨g, 2, none⟩ z) :=
  ((h.setCell hg x).setCell hg y).setCell hg z
end Go.Proofs.YtikgcogiiohahaaGreatDoor
