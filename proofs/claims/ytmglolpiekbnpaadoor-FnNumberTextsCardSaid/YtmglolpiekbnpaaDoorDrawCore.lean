/- The cursor of the laws' own draws. -/
import Derived.Test.YtmglolpiekbnpaaDoorRows
import Derived.WalkKit
import Derived.WalkSpells
import Derived.WalkLawsBesides
import Derived.IntWalk
import Derived.Lib.Hide
import Derived.Deep.QuietTactic
import Derived.BigQuiet
import Derived.Lib.SmallJoins
import Derived.Below
import Derived.Laws.AppendOwn
namespace Go.Proofs.YtmglolpiekbnpaaDoor
open Go.RowKit

theorem and255 (y : Int) : 0 ≤ bits BinOp.and IntKind.i64 y 255 ∧ bits BinOp.and IntKind.i64 y 255 < 256 := by
  have h : (BitVec.ofInt 64 y &&& BitVec.ofInt 64 255).toNat ≤ 255 := by
    rw [BitVec.toNat_and]; exact Nat.and_le_right
  have e : bits BinOp.and IntKind.i64 y 255 = IntKind.wrap .i64 ((BitVec.ofInt 64 y &&& BitVec.ofInt 64 255).toNat : Int) := rfl
  have e2 := IntWalk.wrap64_in ((BitVec.ofInt 64 y &&& BitVec.ofInt 64 255).toNat : Int) (by omega)
  rw [e, IntWalk.i64_left, e2]; omega

/-- The bytes that the draws read. -/
def CodeAt (B : Nat) (w : World) (a : Option Addr) (n : Nat) : Prop := ∀ i, i < n → ∃ b off, a = some ⟨b, off, none⟩ ∧ b < B ∧ ∃ x : Int, 0 ≤ x ∧ x < 256 ∧ w.cell? ⟨b, off + i, none⟩ = some (.int .u8 x)
theorem CodeAt.below {B : Nat} {w w1 : World} {a : Option Addr} {n : Nat} (h : CodeAt B w a n) (hb : Below B w w1) : CodeAt B w1 a n := by
  intro i hi
  obtain ⟨b, off, e, hlt, x, h0, h1, hc⟩ := h i hi
  exact ⟨b, off, e, hlt, x, h0, h1, by rw [hb.cell hlt]; exact hc⟩
theorem CodeAt.mono {B B' : Nat} {w : World} {a : Option Addr} {n : Nat} (h : CodeAt B w a n) (hB : B ≤ B') : CodeAt B' w a n := by
  intro i hi
  obtain ⟨b, off, e, hlt, r⟩ := h i hi
  exact ⟨b, off, e, by omega, r⟩
/-- The cursor of a draw, in block p. -/
def CurAt (w : World) (p : Nat) (a : Option Addr) (n cap : Nat) : Prop := ∃ (i : Nat) (h : Int), i ≤ n ∧ w.heap[p]? = some (.cells #[.slice a n cap, .int .i64 i, .int .i64 h] 49 (0, 0))
theorem CurAt.lt {w : World} {p : Nat} {a : Option Addr} {n cap : Nat} (h : CurAt w p a n cap) : p < w.heap.size := by
  obtain ⟨i, h, _, hw⟩ := h
  exact (Array.getElem?_eq_some_iff.1 hw).1
theorem CurAt.below {w w1 : World} {p : Nat} {a : Option Addr} {n cap : Nat} (h : CurAt w p a n cap) (hb : Below w.heap.size w w1) : CurAt w1 p a n cap := by
  have hlt := h.lt
  obtain ⟨i, h, hi, hw⟩ := h
  exact ⟨i, h, hi, by rw [hb.block p hlt]; exact hw⟩
theorem rowCell {w : World} {b i : Nat} {C : Array Value} {t : TypeId} {v : Value} (h : w.heap[b]? = some (.cells C t (0, 0))) (hv : C[i]? = some v) : w.cell? ⟨b, i, none⟩ = some v := by
  unfold World.cell?; simp only [h]; exact hv
theorem rowFree {w : World} {b i : Nat} {C : Array Value} {t : TypeId} (h : w.heap[b]? = some (.cells C t (0, 0))) : w.frozen? ⟨b, i, none⟩ = false := by
  unfold World.frozen?; simp only [h]; simp
theorem intM {a b : Int} (h : a = b) : Value.int .i64 a = Value.int .i64 b := by rw [h]

set_option maxHeartbeats 1000000 in
set_option maxRecDepth 100000 in
theorem drawNew (a : Option Addr) (n cap : Nat) (w : World) (hs : CodeAt w.heap.size w a n) (hn : n ≤ 1048576) :
    Calls Tryd.prog 19 #[.slice a n cap] w fun e w' => e = .returned (.pointer (some ⟨w.heap.size, 0, none⟩)) ∧ CurAt w' w.heap.size a n cap ∧ Below w.heap.size w w' := by
  have S := Lib.hid hs
  clear hs
  go_enter Tryd.func19, Tryd.ntmps19
  go_wp2
  go_loop [3, 4] (fun h i => ∃ (x : Int) (k : Nat), k ≤ n ∧ h = .int .i64 x ∧ i = .int .i64 k) (fun _ i => n - (intOf i).toNat)
  case atStart => exact ⟨_, 0, Nat.zero_le _, rfl, rfl⟩
  case round =>
    obtain ⟨x, k, hk, rfl, rfl⟩ := hrel
    by_cases hlt : k < n
    · by_cases h4 : k < 4000
      · obtain ⟨b, off, rfl, hb, y, hy0, hy1, hy⟩ := S.out k hlt
        have hlt' : (k : Int) < (n : Int) := by omega
        go_wp2
        go_round
        case rel => exact ⟨_, k + 1, by omega, rfl, by go_num⟩
        case measure => simp [intOf]; omega
      · go_wp2
        go_ret
        exact ⟨rfl, ⟨0, x, Nat.zero_le _, (MapKept.heap_alloc w _).1⟩, (Below.refl _ _).alloc (Nat.le_refl _) _⟩
    · go_wp2
      go_ret
      exact ⟨rfl, ⟨0, x, Nat.zero_le _, (MapKept.heap_alloc w _).1⟩, (Below.refl _ _).alloc (Nat.le_refl _) _⟩

theorem CurAt.drew {w : World} {p : Nat} {a : Option Addr} {n cap : Nat} (h : CurAt w p a n cap) (m : Nat) : CurAt (w.drewN m) p a n cap := h
theorem CurAt.seth {w : World} {p : Nat} {a : Option Addr} {n cap : Nat} (h : CurAt w p a n cap) (v : Int) : CurAt (w.setCell ⟨p, 2, none⟩ (.int .i64 v)) p a n cap := by
  obtain ⟨i, x, hi, hw⟩ := h
  exact ⟨i, v, hi, Joins.block_setCell hw _⟩
theorem CurAt.seti {w : World} {p : Nat} {a : Option Addr} {n cap : Nat} (h : CurAt w p a n cap) (i : Nat) (hi : i < n) : CurAt (w.setCell ⟨p, 1, none⟩ (.int .i64 ((i : Int) + 1))) p a n cap := by
  obtain ⟨j, x, hj, hw⟩ := h
  exact ⟨i + 1, x, by omega, Joins.block_setCell hw _⟩

/-- Only block p has changed, and memory may have grown. -/
theorem grown_refl (w : World) (row : Option Nat) : w.grownBy w row := ⟨rfl, rfl, rfl, Nat.le_refl _, fun _ _ _ => rfl⟩
theorem grown_trans {w a b : World} {row : Option Nat} (h : w.grownBy a row) (k : a.grownBy b row) : w.grownBy b row :=
  ⟨k.os.trans h.os, k.tape.trans h.tape, k.output.trans h.output, Nat.le_trans h.size k.size, fun i hi hne => (k.block i (Nat.lt_of_lt_of_le hi h.size) hne).trans (h.block i hi hne)⟩
theorem grown_draw {w a : World} {row : Option Nat} (h : w.grownBy a row) (m : Nat) : w.grownBy (a.drewN m) row := grown_trans h ⟨rfl, rfl, rfl, Nat.le_refl _, fun _ _ _ => rfl⟩
theorem grown_set {w a : World} {p : Nat} (h : w.grownBy a (some p)) (i : Nat) (v : Value) : w.grownBy (a.setCell ⟨p, i, none⟩ v) (some p) :=
  grown_trans h ⟨rfl, rfl, rfl, by simp, fun k _ hk => heap_setCell_other a ⟨p, i, none⟩ k v (fun e => hk (by simp [e]))⟩
theorem grown_alloc {w a : World} {row : Option Nat} (h : w.grownBy a row) (o : Obj) : w.grownBy (a.alloc o) row :=
  grown_trans h ⟨rfl, rfl, rfl, by simp, fun k hk _ => Below.heap_alloc a o k hk⟩
theorem grown_below {w a : World} {p B : Nat} (h : w.grownBy a (some p)) (hB : B ≤ p) (hp : p < w.heap.size) : Below B w a :=
  (Below.refl B w).grown h (by omega) (fun k e => by cases e; exact hB)

set_option maxHeartbeats 1000000 in
theorem drawByte (a : Option Addr) (n cap p B : Nat) (w : World) (hs : CodeAt B w a n) (hB : B ≤ p) (hc : CurAt w p a n cap) (hn : n ≤ 1048576) :
    Calls Tryd.prog 43 #[.pointer (some ⟨p, 0, none⟩)] w fun e w' => (∃ x : Int, e = .returned (.int .i64 x) ∧ 0 ≤ x ∧ x < 256) ∧ CurAt w' p a n cap ∧ w.grownBy w' (some p) := by
  obtain ⟨i, h, hi, hw⟩ := hc
  have c0 := rowCell (i := 0) hw rfl
  have c1 := rowCell (i := 1) hw rfl
  have c2 := rowCell (i := 2) hw rfl
  have f1 := rowFree (i := 1) hw
  have f2 := rowFree (i := 2) hw
  have C : Hid (CurAt w p a n cap) := Lib.hid ⟨i, h, hi, hw⟩
  have S := Lib.hid hs
  clear hs hw
  by_cases hlt : i < n
  · obtain ⟨b, off, rfl, hb, x, hx0, hx1, hx⟩ := S.out i hlt
    have hlt' : (i : Int) < (n : Int) := by omega
    have hbp : b ≠ p := by omega
    go_enter Tryd.func43, Tryd.ntmps43
    go_wp2
    go_quiet (fail)
    go_wp2
    go_quiet (fail)
    go_wp2
    go_quiet (fail)
    go_wp2
    go_ret
    exact ⟨⟨_, rfl, (and255 _).1, (and255 _).2⟩, ((C.out.seth _).drew _).seti i hlt, grown_set (grown_draw (grown_set (grown_refl w _) 2 _) _) 1 _⟩
  · go_enter Tryd.func43, Tryd.ntmps43
    go_wp2
    go_quiet (fail)
    go_wp2
    go_quiet (fail)
    go_wp2
    go_ret
    exact ⟨⟨_, rfl, (and255 _).1, (and255 _).2⟩, ((C.out.seth _).drew _).drew _, grown_draw (grown_draw (grown_set (grown_refl w _) 2 _) _) _⟩

theorem tmod_in (x : Int) (n : Nat) (h0 : 0 ≤ x) (hn : 0 < n) : ∃ k : Nat, k < n ∧ x % (n : Int) = (k : Int) := by
  obtain ⟨m, rfl⟩ : ∃ m : Nat, x = m := ⟨x.toNat, by omega⟩
  exact ⟨m % n, Nat.mod_lt _ hn, rfl⟩

set_option maxHeartbeats 1000000 in
theorem drawBelow (q : Nat) (h0 : 0 < q) (h1 : q ≤ 256) (a : Option Addr) (n cap p B : Nat) (w : World) (hs : CodeAt B w a n) (hB : B ≤ p) (hc : CurAt w p a n cap) (hn : n ≤ 1048576) :
    Calls Tryd.prog 27 #[.pointer (some ⟨p, 0, none⟩), .int .i64 q] w fun e w' => (∃ k : Nat, e = .returned (.int .i64 k) ∧ k < q) ∧ CurAt w' p a n cap ∧ w.grownBy w' (some p) := by
  have C := Lib.hid (drawByte a n cap p B w hs hB hc hn)
  clear hs hc
  go_enter Tryd.func27, Tryd.ntmps27
  go_wp2_with fail
  refine C.out.mono ?_
  rintro e w1 ⟨⟨x, rfl, hx0, hx1⟩, c1, b1⟩
  have C1 := Lib.hid c1
  have B1 := Lib.hid b1
  clear c1 b1
  obtain ⟨k, hk, ek⟩ := tmod_in x q hx0 h0
  have E := Lib.hid ek
  clear ek
  go_wp2
  go_ret
  exact ⟨⟨k, congrArg (fun z : Int => Ending.returned (.int .i64 z)) E.out, hk⟩, C1.out, B1.out⟩

theorem grown_blk {w w1 : World} {p g : Nat} {o : Obj} (h : w.grownBy w1 (some p)) (hg : w.heap[g]? = some o) (hne : g ≠ p) : w1.heap[g]? = some o := by
  rw [h.block g (Array.getElem?_eq_some_iff.1 hg).1 (fun e => hne (by cases e; rfl))]; exact hg
theorem grown_of_below {w w1 : World} {row : Option Nat} (hb : Below w.heap.size w w1) : w.grownBy w1 row := ⟨hb.os, hb.tape, hb.output, hb.size, fun k hk _ => hb.block k hk⟩
theorem grown_far {w a : World} {p : Nat} (h : w.grownBy a (some p)) {g : Nat} (hg : w.heap.size ≤ g) (i : Nat) (v : Value) : w.grownBy (a.setCell ⟨g, i, none⟩ v) (some p) :=
  ⟨h.os, h.tape, h.output, by have := h.size; simp; omega, fun k hk hne => (Below.heap_setCell _ _ _ _ (show k ≠ g by omega)).trans (h.block k hk hne)⟩
theorem CurAt.far {w : World} {p : Nat} {a : Option Addr} {n cap : Nat} (h : CurAt w p a n cap) {g : Nat} (hg : p ≠ g) (i : Nat) (v : Value) : CurAt (w.setCell ⟨g, i, none⟩ v) p a n cap := by
  obtain ⟨j, x, hj, hw⟩ := h
  exact ⟨j, x, hj, (Below.heap_setCell _ _ _ _ hg).trans hw⟩
theorem CurAt.keep {w w1 : World} {p : Nat} {a : Option Addr} {n cap : Nat} (h : CurAt w p a n cap) (hb : Below w.heap.size w w1) : CurAt w1 p a n cap := h.below hb
theorem cell_ints (w : World) (ss : List Int) (t : TypeId) (i : Nat) (hi : i < ss.length) : (w.alloc (.cells (ss.map (Value.int .i64)).toArray t)).cell? ⟨w.heap.size, i, none⟩ = some (.int .i64 (ss.getD i 0)) := by
  have h : (w.alloc (.cells (ss.map (Value.int .i64)).toArray t)).heap[w.heap.size]? = some (.cells (ss.map (Value.int .i64)).toArray t) := (MapKept.heap_alloc w _).1
  unfold World.cell?
  simp only [h]
  simp [hi]
set_option maxHeartbeats 1000000 in
theorem drawPickI (q b ca : Nat) (h0 : 0 < q) (h1 : q ≤ 256) (a : Option Addr) (n cap p B : Nat) (w : World) (hs : CodeAt B w a n) (hB : B ≤ p) (hc : CurAt w p a n cap) (hn : n ≤ 1048576)
    (hb : b ≠ p) (hl : ∀ k, k < q → ∃ x : Int, w.cell? ⟨b, k, none⟩ = some (.int .i64 x) ∧ -9223372036854775808 ≤ x ∧ x ≤ 9223372036854775807) :
    Calls Tryd.prog 37 #[.pointer (some ⟨p, 0, none⟩), .slice (some ⟨b, 0, none⟩) q ca] w fun e w' => (∃ x : Int, e = .returned (.int .i64 x) ∧ -9223372036854775808 ≤ x ∧ x ≤ 9223372036854775807) ∧ CurAt w' p a n cap ∧ w.grownBy w' (some p) := by
  have C := Lib.hid (drawBelow q h0 h1 a n cap p B w hs hB hc hn)
  have L := Lib.hid hl
  clear hs hc hl
  go_enter Tryd.func37, Tryd.ntmps37
  go_wp2_with fail
  refine C.out.mono ?_
  rintro e w1 ⟨⟨k, rfl, hk⟩, c1, g1⟩
  have G1 := Lib.hid g1
  have C1 := Lib.hid c1
  obtain ⟨x, hx, hx0, hx1⟩ := L.out k hk
  have hx' := g1.cell hx (fun e => hb (by simpa using e))
  have hk' : (k : Int) < (q : Int) := by omega
  clear g1 hx c1
  go_wp2
  go_ret
  exact ⟨⟨x, rfl, hx0, hx1⟩, C1.out, G1.out⟩
theorem drawOnce (q : Nat) (h0 : 0 < q) (h1 : q ≤ 256) (a : Option Addr) (n cap p B : Nat) (w : World) (hs : CodeAt B w a n) (hB : B ≤ p) (hc : CurAt w p a n cap) (hn : n ≤ 1048576) :
    Calls Tryd.prog 25 #[.pointer (some ⟨p, 0, none⟩), .int .i64 q] w fun e w' => (∃ b : Bool, e = .returned (.bool b)) ∧ CurAt w' p a n cap ∧ w.grownBy w' (some p) := by
  have C := Lib.hid (drawBelow q h0 h1 a n cap p B w hs hB hc hn)
  clear hs hc
  go_enter Tryd.func25, Tryd.ntmps25
  go_wp2_with fail
  refine C.out.mono ?_
  rintro e w1 ⟨⟨k, rfl, hk⟩, c1, g1⟩
  have C1 := Lib.hid c1
  have G1 := Lib.hid g1
  clear c1 g1
  go_wp2
  go_ret
  exact ⟨⟨_, rfl⟩, C1.out, G1.out⟩
end Go.Proofs.YtmglolpiekbnpaaDoor
