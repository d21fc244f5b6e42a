/- Small lemmas for functions that take and return items. -/
import Derived.Test.YtjbddpcfbmjjpaaRows
import Derived.WalkKit
import Derived.Laws.Rows
import Derived.Lib.SmallJoins
import Derived.Below
import Derived.Lib.Hide
namespace Go.Proofs.Ytjbddpcfbmjjpaa
open Go.RowKit

theorem bcell {W w1 : World} (hb : Below W.heap.size W w1) : (∀ b o, b < W.heap.size → w1.cell? ⟨b, o, none⟩ = W.cell? ⟨b, o, none⟩) ∧ (∀ b o, b < W.heap.size → w1.frozen? ⟨b, o, none⟩ = W.frozen? ⟨b, o, none⟩) :=
  ⟨fun b o h => hb.cell (p := ⟨b, o, none⟩) h, fun b o h => hb.frozen (p := ⟨b, o, none⟩) h⟩
theorem below_drewN' {B : Nat} {a w : World} (h : Below B a w) (n : Nat) : Below B a (w.drewN n) := ⟨h.os, h.tape, h.output, h.size, h.block⟩
theorem below_drew' {B : Nat} {a w : World} (h : Below B a w) : Below B a w.drew := ⟨h.os, h.tape, h.output, h.size, h.block⟩
theorem blk_drew {w : World} {g : Nat} {o : Option Obj} (h : w.heap[g]? = o) : w.drew.heap[g]? = o := h
theorem blk_drewN {w : World} {n g : Nat} {o : Option Obj} (h : w.heap[g]? = o) : (w.drewN n).heap[g]? = o := h
theorem blk_old {w : World} {g : Nat} {o p : Obj} (h : w.heap[g]? = some o) : (w.alloc p).heap[g]? = some o := by
  rw [Below.heap_alloc w p g (Array.getElem?_eq_some_iff.1 h).1]; exact h
theorem blk_new (w : World) (o : Obj) {g : Nat} (hg : g = w.heap.size) : (w.alloc o).heap[g]? = some o := by
  subst hg; exact (MapKept.heap_alloc w o).1
theorem blk_below {W w1 : World} {g : Nat} {o : Obj} (hb : Below W.heap.size W w1) (h : W.heap[g]? = some o) : w1.heap[g]? = some o := by
  rw [hb.block g (Array.getElem?_eq_some_iff.1 h).1]; exact h
theorem infoItem : (Try.prog.info? 25).map (·.size) = some 3 := by kernel_rfl
/-- An item that was stored into the result's block. -/
theorem item_ret {fn : Func} {R : Ending → World → Prop} {act : Act} {w : World} {g : Nat} {p : Tmp} {x y z a b c : Value} {t : TypeId} {fr : Nat × Nat}
    (hfn : fn.results = #[.cell p 25]) (hp : act.tmps.getD p undef = .pointer (some ⟨g, 0, none⟩)) (hd : act.defers = []) (hg : w.heap[g]? = some (.cells #[x, y, z] t fr))
    (hR : R (.returned (.agg #[a, b, c])) (((w.setCell ⟨g, 0, none⟩ a).setCell ⟨g, 1, none⟩ b).setCell ⟨g, 2, none⟩ c)) :
    bodyPost Try.prog fn R .ret act (((w.setCell ⟨g, 0, none⟩ a).setCell ⟨g, 1, none⟩ b).setCell ⟨g, 2, none⟩ c) :=
  bodyPost_ret (results_cell_row hfn _ _ g t #[a, b, c] fr _ hp (Joins.block_setCell (Joins.block_setCell (Joins.block_setCell hg a) b) c) Try.underlying25 rfl infoItem) hd hR
/-- An item that lies in the result's block as it was made. -/
theorem item_ret0 {fn : Func} {R : Ending → World → Prop} {act : Act} {w : World} {g : Nat} {p : Tmp} {a b c : Value} {t : TypeId} {fr : Nat × Nat}
    (hfn : fn.results = #[.cell p 25]) (hp : act.tmps.getD p undef = .pointer (some ⟨g, 0, none⟩)) (hd : act.defers = []) (hg : w.heap[g]? = some (.cells #[a, b, c] t fr))
    (hR : R (.returned (.agg #[a, b, c])) w) : bodyPost Try.prog fn R .ret act w :=
  bodyPost_ret (results_cell_row hfn _ _ g t #[a, b, c] fr _ hp hg Try.underlying25 rfl infoItem) hd hR
theorem below_three {B : Nat} {a w : World} (h : Below B a w) {g : Nat} (hg : B ≤ g) (x y z : Value) : Below B a (((w.setCell ⟨g, 0, none⟩ x).setCell ⟨g, 1, none⟩ y).setCell ⟨g, 2, none⟩ z) :=
  ((h.setCell hg x).setCell hg y).setCell hg z
end Go.Proofs.Ytjbddpcfbmjjpaa
