/- The cursor of the laws' own draws. -/
import Derived.Test.YteigfhenbmhepaaRows
import Derived.WalkKit
import Derived.WalkSpells
import Derived.WalkLawsBesides
import Derived.IntWalk
import Derived.Lib.Hide
import Derived.Deep.QuietTactic
import Derived.BigQuiet
import Derived.Lib.SmallJoins
import Derived.Below
import Derived.Laws.AppendOwn
namespace Go.Proofs.Yteigfhenbmhepaa
open Go.RowKit

theorem and255 (y : Int) : 0 ≤ bits BinOp.and IntKind.i64 y 255 ∧ bits BinOp.and IntKind.i64 y 255 < 256 := by
  have h : (BitVec.ofInt 64 y &&& BitVec.ofInt 64 255).toNat ≤ 255 := by
    rw [BitVec.toNat_and]; exact Nat.and_le_right
  have e : bits BinOp.and IntKind.i64 y 255 = IntKind.wrap .i64 ((BitVec.ofInt 64 y &&& BitVec.ofInt 64 255).toNat : Int) := rfl
  have e2 := IntWalk.wrap64_in ((BitVec.ofInt 64 y &&& BitVec.ofInt 64 255).toNat : Int) (by omega)
  rw [e, IntWalk.i64_left, e2]; omega

/-- The bytes that the draws read. -/
def CodeAt (B : Nat) (w : World) (a : Option Addr) (n : Nat) : Prop := ∀ i, i < n → ∃ b off, a = some ⟨b, off, none⟩ ∧ b < B ∧ ∃ x : Int, 0 ≤ x ∧ x < 256 ∧ w.cell? ⟨b, off + i, none⟩ = some (.int .u8 x)
theorem CodeAt.below {B : Nat} {w w1 : World} {a : Option Addr} {n : Nat} (h : CodeAt B w a n) (hb : Below B w w1) : CodeAt B w1 a n := by
  intro i hi
  obtain ⟨b, off, e, hlt, x, h0, h1, hc⟩ := h i hi
  exact ⟨b, off, e, hlt, x, h0, h1, by rw [hb.cell hlt]; exact hc⟩
theorem CodeAt.mono {B B' : Nat} {w : World} {a : Option Addr} {n : Nat} (h : CodeAt B w a n) (hB : B ≤ B') : CodeAt B' w a n := by
  intro i hi
  obtain ⟨b, off, e, hlt, r⟩ := h i hi
  exact ⟨b, off, e, by omega, r⟩
theorem rowCell {w : World} {b i : Nat} {C : Array Value} {t : TypeId} {v : Value} (h : w.heap[b]? = some (.cells C t (0, 0))) (hv : C[i]? = some v) : w.cell? ⟨b, i, none⟩ = some v := by
  unfold World.cell?; simp only [h]; exact hv
theorem rowFree {w : World} {b i : Nat} {C : Array Value} {t : TypeId} (h : w.heap[b]? = some (.cells C t (0, 0))) : w.frozen? ⟨b, i, none⟩ = false := by
  unfold World.frozen?; simp only [h]; simp
theorem intM {a b : Int} (h : a = b) : Value.int .i64 a = Value.int .i64 b := by rw [h]

/-- Only block p has changed, and memory may have grown. -/
theorem grown_refl (w : World) (row : Option Nat) : w.grownBy w row := ⟨rfl, rfl, rfl, Nat.le_refl _, fun _ _ _ => rfl⟩
theorem grown_trans {w a b : World} {row : Option Nat} (h : w.grownBy a row) (k : a.grownBy b row) : w.grownBy b row :=
  ⟨k.os.trans h.os, k.tape.trans h.tape, k.output.trans h.output, Nat.le_trans h.size k.size, fun i hi hne => (k.block i (Nat.lt_of_lt_of_le hi h.size) hne).trans (h.block i hi hne)⟩
theorem grown_draw {w a : World} {row : Option Nat} (h : w.grownBy a row) (m : Nat) : w.grownBy (a.drewN m) row := grown_trans h ⟨rfl, rfl, rfl, Nat.le_refl _, fun _ _ _ => rfl⟩
theorem grown_set {w a : World} {p : Nat} (h : w.grownBy a (some p)) (i : Nat) (v : Value) : w.grownBy (a.setCell ⟨p, i, none⟩ v) (some p) :=
  grown_trans h ⟨rfl, rfl, rfl, by simp, fun k _ hk => heap_setCell_other a ⟨p, i, none⟩ k v (fun e => hk (by simp [e]))⟩
theorem grown_alloc {w a : World} {row : Option Nat} (h : w.grownBy a row) (o : Obj) : w.grownBy (a.alloc o) row :=
  grown_trans h ⟨rfl, rfl, rfl, by simp, fun k hk _ => Below.heap_alloc a o k hk⟩
theorem grown_below {w a : World} {p B : Nat} (h : w.grownBy a (some p)) (hB : B ≤ p) (hp : p < w.heap.size) : Below B w a :=
  (Below.refl B w).grown h (by omega) (fun k e => by cases e; exact hB)

theorem tmod_in (x : Int) (n : Nat) (h0 : 0 ≤ x) (hn : 0 < n) : ∃ k : Nat, k < n ∧ x % (n : Int) = (k : Int) := by
  obtain ⟨m, rfl⟩ : ∃ m : Nat, x = m := ⟨x.toNat, by omega⟩
  exact ⟨m % n, Nat.mod_lt _ hn, rfl⟩

theorem grown_blk {w w1 : World} {p g : Nat} {o : Obj} (h : w.grownBy w1 (some p)) (hg : w.heap[g]? = some o) (hne : g ≠ p) : w1.heap[g]? = some o := by
  rw [h.block g (Array.getElem?_eq_some_iff.1 hg).1 (fun e => hne (by cases e; rfl))]; exact hg
theorem grown_of_below {w w1 : World} {row : Option Nat} (hb : Below w.heap.size w w1) : w.grownBy w1 row := ⟨hb.os, hb.tape, hb.output, hb.size, fun k hk _ => hb.block k hk⟩
theorem grown_far {w a : World} {p : Nat} (h : w.grownBy a (some p)) {g : Nat} (hg : w.heap.size ≤ g) (i : Nat) (v : Value) : w.grownBy (a.setCell ⟨g, i, none⟩ v) (some p) :=
  ⟨h.os, h.tape, h.output, by have := h.size; simp; omega, fun k hk hne => (Below.heap_setCell _ _ _ _ (show k ≠ g by omega)).trans (h.block k hk hne)⟩
theorem cell_ints (w : World) (ss : List Int) (t : TypeId) (i : Nat) (hi : i < ss.length) : (w.alloc (.cells (ss.map (Value.int .i64)).toArray t)).cell? ⟨w.heap.size, i, none⟩ = some (.int .i64 (ss.getD i 0)) := by
  have h : (w.alloc (.cells (ss.map (Value.int .i64)).toArray t)).heap[w.heap.size]? = some (.cells (ss.map (Value.int .i64)).toArray t) := (MapKept.heap_alloc w _).1
  unfold World.cell?
  simp only [h]
  simp [hi]
end Go.Proofs.Yteigfhenbmhepaa
