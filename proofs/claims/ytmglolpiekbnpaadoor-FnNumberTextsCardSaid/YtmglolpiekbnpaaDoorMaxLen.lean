/- The library's own variable that a search asks: it holds some int. -/
import Derived.Test.YtmglolpiekbnpaaDoorRows
import Derived.Test.YtmglolpiekbnpaaDoorShelf
import Derived.WalkKit
import Derived.WalkSmall
namespace Go.Proofs.YtmglolpiekbnpaaDoor
open Go.RowKit
def MaxMet (w : World) : Prop := ∃ m : Int, w.cell? ⟨0, 0, none⟩ = some (.int .i64 m)
theorem MaxMet.of {w : World} (h : w.ShapedOpen Tryd.prog) : MaxMet w := Tryd.laysM145.s1_3 w h
theorem cell_lt' {w : World} {p : Addr} {v : Value} (h : w.cell? p = some v) : p.block < w.heap.size := by
  unfold World.cell? at h
  rcases Nat.lt_or_ge p.block w.heap.size with h' | h'
  · exact h'
  · rw [Array.getElem?_eq_none h'] at h; cases h
theorem MaxMet.below {w w1 : World} (h : MaxMet w) (hb : Below w.heap.size w w1) : MaxMet w1 := by
  obtain ⟨m, hm⟩ := h
  exact ⟨m, by rw [hb.cell (cell_lt' hm)]; exact hm⟩
end Go.Proofs.YtmglolpiekbnpaaDoor
