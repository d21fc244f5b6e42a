/- Rows of ints of the call's own. -/
import Derived.Test.YtmglolpiekbnpaaRows
import Derived.Test.YtmglolpiekbnpaaDrawCore
import Derived.Test.YtmglolpiekbnpaaInts
import Derived.OwnWalk
import Derived.Maps.AppendAt
namespace Go.Proofs.Ytmglolpiekbnpaa
open Go.RowKit

/-- v is a slice of the ints zs, in a row of the call's own (from block B on). -/
def OwnI (B : Nat) (w : World) (v : Value) (zs : List Int) : Prop := w.ownsRow B 3 1 v zs.length (zs.map (Value.int .i64))
theorem OwnI.base {B : Nat} {w : World} {v : Value} {zs : List Int} (h : OwnI B w v zs) : ∀ k, v.ownBlock = some k → B ≤ k := by
  intro k hk
  rcases h.2 with ⟨rfl, _⟩ | ⟨g, cap, cur, rfl, hb, _⟩
  · cases hk
  · simp only [Value.ownBlock, Option.some.injEq] at hk; omega
theorem OwnI.snoc {B : Nat} {w : World} {v : Value} {acc : List Int} {x : Int} (h : w.ownsRow B 3 1 v (acc.length + 1) (acc.map (Value.int .i64) ++ [.int .i64 x])) : OwnI B w v (acc ++ [x]) := by
  unfold OwnI; rw [List.length_append, List.map_append]; exact h
theorem OwnI.below {B : Nat} {w w1 : World} {v : Value} {zs : List Int} (h : OwnI B w v zs) (hb : Below w.heap.size w w1) : OwnI B w1 v zs := World.ownsRow.kept h ⟨hb.os, hb.tape, hb.output, hb.size, fun k hk _ => hb.block k hk⟩ (Classical.em _)
theorem OwnI.grown {B p : Nat} {w w1 : World} {v : Value} {zs : List Int} (h : OwnI B w v zs) (hg : w.grownBy w1 (some p)) (hp : p < B) : OwnI B w1 v zs :=
  World.ownsRow.kept h hg (by
    cases hv : v.ownBlock with
    | none => exact .inl rfl
    | some k => right; intro e; cases e; have := h.base p hv; omega)
theorem OwnI.lower {B B' : Nat} {w : World} {v : Value} {zs : List Int} (h : OwnI B w v zs) (hB : B' ≤ B) : OwnI B' w v zs := by
  obtain ⟨h1, h2 | ⟨g, cap, cur, e, hb, rest⟩⟩ := h
  · exact ⟨h1, .inl h2⟩
  · exact ⟨h1, .inr ⟨g, cap, cur, e, Nat.le_trans hB hb, rest⟩⟩
theorem ownI_empty (B : Nat) (w : World) (hB : B ≤ w.heap.size) : OwnI B (w.alloc (.cells #[] 3)) (.slice (some ⟨w.heap.size, 0, none⟩) 0 0) [] :=
  ⟨rfl, .inr ⟨w.heap.size, 0, #[], rfl, hB, (MapKept.heap_alloc w _).1, Nat.le_refl _, Nat.zero_le _, rfl, rfl⟩⟩
theorem ownI_open {B : Nat} {w : World} {v : Value} {zs : List Int} (h : OwnI B w v zs) : ∃ a cap, v = .slice a zs.length cap ∧ IntsAt w.heap.size w a zs.length (fun i => zs.getD i 0) := by
  rcases h.2 with ⟨rfl, e⟩ | ⟨g, cap, cur, rfl, hb, hg, rest⟩
  · exact ⟨none, 0, by rw [e], fun i hi => by omega⟩
  · refine ⟨_, cap, rfl, fun i hi => ⟨g, 0, rfl, (Array.getElem?_eq_some_iff.1 hg).1, ?_⟩⟩
    have k := World.ownsRow.cellAt h i (by omega)
    rw [Nat.zero_add, k]
    simp [hi]
/-- An append to a row of the call's own leaves block p alone. -/
theorem ownI_other {B p : Nat} {w w1 : World} {v : Value} {o : Obj} (hg : (w.alloc o).grownBy w1 v.ownBlock) (hv : ∀ k, v.ownBlock = some k → B ≤ k) (hpB : p < B) (hp : p < w.heap.size) : w1.heap[p]? = w.heap[p]? :=
  (hg.block p (by simp; omega) (fun e => by have := hv p e.symm; omega)).trans (Below.heap_alloc w o p hp)
theorem grownI_app {w w2 w3 : World} {p : Nat} {v : Value} {o : Obj} (h : w.grownBy w2 (some p)) (hg : (w2.alloc o).grownBy w3 v.ownBlock) (hv : ∀ k, v.ownBlock = some k → w.heap.size ≤ k) : w.grownBy w3 (some p) := by
  have h2 := grown_alloc h o
  exact ⟨hg.os.trans h2.os, hg.tape.trans h2.tape, hg.output.trans h2.output, Nat.le_trans h2.size hg.size, fun i hi hne =>
    (hg.block i (Nat.lt_of_lt_of_le hi h2.size) (fun e => by have := hv i e.symm; omega)).trans (h2.block i hi hne)⟩
theorem CurAt.sameI {w w1 : World} {p : Nat} {a : Option Addr} {n cap : Nat} (h : CurAt w p a n cap) (e : w1.heap[p]? = w.heap[p]?) : CurAt w1 p a n cap := by
  obtain ⟨i, x, hi, hw⟩ := h
  exact ⟨i, x, hi, e.trans hw⟩
theorem listAtI (w : World) (ss : List Int) (t : TypeId) (hs : ∀ x ∈ ss, -9223372036854775808 ≤ x ∧ x ≤ 9223372036854775807) :
    ∀ k, k < ss.length → ∃ x : Int, (w.alloc (.cells (ss.map (Value.int .i64)).toArray t)).cell? ⟨w.heap.size, k, none⟩ = some (.int .i64 x) ∧ -9223372036854775808 ≤ x ∧ x ≤ 9223372036854775807 := by
  intro k hk
  refine ⟨_, cell_ints w ss t k hk, ?_⟩
  rw [List.getD_eq_getElem?_getD, List.getElem?_eq_getElem hk]
  exact hs _ (List.getElem_mem hk)
end Go.Proofs.Ytmglolpiekbnpaa
