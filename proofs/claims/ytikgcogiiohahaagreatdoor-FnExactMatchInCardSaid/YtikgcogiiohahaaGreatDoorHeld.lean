/- What a law on items knows of its variables' blocks between its statements. -/
import Derived.Test.YtikgcogiiohahaaGreatDoorNumMath
import Derived.Test.YtikgcogiiohahaaGreatDoorNumKit
namespace Go.Proofs.YtikgcogiiohahaaGreatDoor
set_option maxRecDepth 100000
open Go.RowKit
set_option linter.unusedVariables false

/-- Each named block holds its item, and all that lay there at the outset is as it was. -/
def Held (w v : World) (L : List (Nat × It)) : Prop :=
  Below w.heap.size w v ∧ ∀ q ∈ L, v.heap[q.1]? = some (.cells #[.int .i64 q.2.n, .int .i64 q.2.d, .string q.2.t] 45 (0, 0))
theorem held_at {w v : World} {L : List (Nat × It)} {g : Nat} {x : It} (h : Held w v L) (m : (g, x) ∈ L) : v.heap[g]? = some (.cells #[.int .i64 x.n, .int .i64 x.d, .string x.t] 45 (0, 0)) := h.2 _ m
theorem held_call {w v v1 : World} {L : List (Nat × It)} (h : Held w v L) (hb : Below v.heap.size v v1) : Held w v1 L :=
  ⟨below_then h.1 hb, fun q hq => blk_below hb (h.2 q hq)⟩
theorem held_drew {w v : World} {L : List (Nat × It)} (h : Held w v L) : Held w v.drew L := ⟨below_drew' h.1, fun q hq => blk_drew (h.2 q hq)⟩
theorem held_alloc {w v : World} {L : List (Nat × It)} (h : Held w v L) (o : Obj) : Held w (v.alloc o) L := ⟨h.1.alloc h.1.size _, fun q hq => blk_old (h.2 q hq)⟩
theorem held_step {w v v' v1 : World} {L : List (Nat × It)} (h : Held w v L) (s : Step v v') (hb : Below v'.heap.size v' v1) : Held w v1 L := by
  refine held_call ?_ hb
  cases s
  · exact h
  · exact held_drew h
  · exact held_alloc h _
  · exact held_alloc (held_drew h) _
  · exact held_drew (held_alloc h _)
theorem held_lt {w v : World} {L : List (Nat × It)} (h : Held w v L) : ∀ q ∈ L, q.1 < v.heap.size := fun q hq => (Array.getElem?_eq_some_iff.1 (h.2 q hq)).1
theorem held_new {w v : World} {L : List (Nat × It)} {z : It} (h : Held w v L) : Held w (v.alloc (.cells #[.int .i64 z.n, .int .i64 z.d, .string z.t] 45)) ((v.heap.size, z) :: L) :=
  ⟨h.1.alloc h.1.size _, fun q hq => by
    rcases List.mem_cons.1 hq with rfl | hq
    · exact blk_new _ _ rfl
    · exact blk_old (h.2 q hq)⟩
theorem held_far {w v : World} {L : List (Nat × It)} {b g : Nat} {x y z : Value} (h : Held w v L) (hL : ∀ q ∈ L, q.1 < b) (hb : b ≤ g) (hg : w.heap.size ≤ g) :
    Held w (((v.setCell ⟨g, 0, none⟩ x).setCell ⟨g, 1, none⟩ y).setCell ⟨g, 2, none⟩ z) L :=
  ⟨below_three h.1 hg _ _ _, fun q hq => blk_set3' (h.2 q hq) (by have := hL q hq; omega)⟩
theorem held_set {w v : World} {L : List (Nat × It)} {b g : Nat} {z : It} {x y u : Value} (h : Held w v L) (G : v.heap[g]? = some (.cells #[x, y, u] 45 (0, 0))) (hL : ∀ q ∈ L, q.1 < b) (hb : b ≤ g) (hg : w.heap.size ≤ g) :
    Held w (((v.setCell ⟨g, 0, none⟩ (.int .i64 z.n)).setCell ⟨g, 1, none⟩ (.int .i64 z.d)).setCell ⟨g, 2, none⟩ (.string z.t)) ((g, z) :: L) :=
  ⟨below_three h.1 hg _ _ _, fun q hq => by
    rcases List.mem_cons.1 hq with rfl | hq
    · exact cells_set3 G
    · exact blk_set3' (h.2 q hq) (by have := hL q hq; omega)⟩
theorem held_pair {w v : World} {x y : It} (hb : Below w.heap.size w v) : Held w ((v.alloc (.cells #[.int .i64 x.n, .int .i64 x.d, .string x.t] 45)).alloc (.cells #[.int .i64 y.n, .int .i64 y.d, .string y.t] 45)) [(v.heap.size + 1, y), (v.heap.size, x)] := by
  have h0 : Held w v [] := ⟨hb, fun q hq => by cases hq⟩
  have h := held_new (z := y) (held_new (z := x) h0)
  simpa using h
theorem held_sub {w v : World} {L M : List (Nat × It)} (h : Held w v L) (hs : ∀ q ∈ M, q ∈ L) : Held w v M := ⟨h.1, fun q hq => h.2 q (hs q hq)⟩
theorem held3 {w v : World} {L : List (Nat × It)} {g : Nat} {x : It} (h : Held w v L) (m : (g, x) ∈ L) : v.cell? ⟨g, 0, none⟩ = some (.int .i64 x.n) ∧ v.cell? ⟨g, 1, none⟩ = some (.int .i64 x.d) ∧ v.cell? ⟨g, 2, none⟩ = some (.string x.t) :=
  (three (held_at h m)).1
theorem cat3 {A B C D : Prop} (h : A ∧ B ∧ C) (k : D) : A ∧ B ∧ C ∧ D := ⟨h.1, h.2.1, h.2.2, k⟩
end Go.Proofs.YtikgcogiiohahaaGreatDoor
