/- A strings.Builder of the call's own that holds the bytes l: what its methods do, by the library's contracts. -/
import Derived.Test.YtogkbfafdlbodaaDoorRows
import Derived.Test.YtogkbfafdlbodaaDoorShelf
import Derived.WalkKit
import Derived.Lib.VarintMem
import Derived.Lib.Hide
namespace Go.Proofs.YtogkbfafdlbodaaDoor
open Go.RowKit Go.Lib

/-- Block b, made by this call (from B on), is a builder that holds the bytes l. -/
def BW (B b : Nat) (l : List UInt8) (w : World) : Prop := Lib.IsBuilderF 48 5 B b (Lib.byteCells l) w
theorem BW.fresh (w : World) : BW w.heap.size w.heap.size [] (w.alloc (.cells #[.pointer none, .slice none 0 0] 48)) :=
  Lib.IsBuilderF.of (Lib.fresh_isBuilder 48 5 w)
theorem BW.mk {B b : Nat} {l : List UInt8} {cs : List Value} {w : World} (h : Lib.BuilderAtF 48 5 B b (.pointer (some ⟨b, 0, none⟩)) cs w) (hc : cs = Lib.byteCells l) : BW B b l w := by
  subst hc; exact .inr h

theorem BW.below {B b : Nat} {l : List UInt8} {w w1 : World} (h : BW B b l w) (hb : Below w.heap.size w w1) : BW B b l w1 := by
  have one : ∀ p, Lib.BuilderAtF 48 5 B b p (Lib.byteCells l) w → Lib.BuilderAtF 48 5 B b p (Lib.byteCells l) w1 := by
    intro p h
    have hlt := h.lt
    obtain ⟨hB, v, hv, hown, hne⟩ := h
    exact ⟨hB, v, by rw [hb.block b hlt]; exact hv, hown.kept (row := none) ⟨hb.os, hb.tape, hb.output, hb.size, fun k hk _ => hb.block k hk⟩ (Classical.em _), hne⟩
  exact Or.imp (one _) (one _) h

theorem wbyte (B b : Nat) (l : List UInt8) (c : Int) (u : UInt8) (hc : c = u.toNat) (w : World) (h : BW B b l w) (hlen : l.length + 1 ≤ 140737488355328) (hBw : B ≤ w.heap.size) :
    Calls Tryd.prog 31 #[.pointer (some ⟨b, 0, none⟩), .int .u8 c] w fun e w' => e = .returned .nilIface ∧ BW B b (l ++ [u]) w' ∧ Below B w w' :=
  (Tryd.Builder_WriteByte_k B b _ c w h (by rw [Lib.byteCells_length]; exact hlen) hBw).mono fun _ _ ⟨he, h1, b1, _⟩ => ⟨he, BW.mk h1 (by subst hc; simp [Lib.byteCells]), b1⟩
theorem wstr (B b : Nat) (l : List UInt8) (s : ByteArray) (w : World) (h : BW B b l w) (hlen : l.length + s.size ≤ 140737488355328) (hBw : B ≤ w.heap.size) :
    Calls Tryd.prog 36 #[.pointer (some ⟨b, 0, none⟩), .string s] w fun e w' => e = .returned (.tuple #[.int .i64 s.size, .nilIface]) ∧ BW B b (l ++ s.data.toList) w' ∧ Below B w w' :=
  (Tryd.Builder_WriteString_k B b _ s w h (by rw [Lib.byteCells_length]; exact hlen) hBw).mono fun _ _ ⟨he, h1, b1, _⟩ => ⟨he, BW.mk h1 (by simp [Lib.byteCells, Lib.strCells]), b1⟩
theorem wtext (B b : Nat) (l : List UInt8) (w : World) (h : BW B b l w) (hBw : B ≤ w.heap.size) :
    Calls Tryd.prog 33 #[.pointer (some ⟨b, 0, none⟩)] w fun e w' => e = .returned (.string ⟨l.toArray⟩) ∧ Below B w w' :=
  (Tryd.Builder_String_any_k B b l w h hBw).mono fun _ _ ⟨he, _, b1, _⟩ => ⟨he, b1⟩
end Go.Proofs.YtogkbfafdlbodaaDoor
