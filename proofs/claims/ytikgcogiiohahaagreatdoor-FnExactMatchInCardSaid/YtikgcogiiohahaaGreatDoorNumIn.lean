/- Items that come in as arguments; what the exact laws call besides. -/
import Derived.Test.YtikgcogiiohahaaGreatDoorRows
import Derived.Test.YtikgcogiiohahaaGreatDoorNumMath
import Derived.Test.YtikgcogiiohahaaGreatDoorNumKit
import Derived.WalkKit
import Derived.ProofKit
import Derived.OpenShut
import Derived.Lib.SmallJoins
import Derived.IntWalk
namespace Go.Proofs.YtikgcogiiohahaaGreatDoor
set_option maxRecDepth 100000
open Go.ChangeShapes Go.WideShapes Go.RowKit
open Go.ChangeMaps (open_string shut_string)
set_option linter.unusedVariables false

/-- The bounds of an item that came in. -/
def InB (x : It) : Prop := (-9223372036854775808 ≤ x.n ∧ x.n ≤ 9223372036854775807) ∧ (-9223372036854775808 ≤ x.d ∧ x.d ≤ 9223372036854775807) ∧ x.t.size ≤ maxLen
theorem item_in {H : Type} {enc : TypeId × Value → H} {W : World} {base b0 : Nat} {r : Reach} {sp : Nat → Bool} {held : Bool} {v : Value} {d : DataW H} {p : List MemPlace}
    (hv : Value.okWide Tryz.prog W r b0 61 v) (h : DataW.Trod enc Tryz.prog W base sp held 61 v d p) :
    ∃ x : It, v = .agg #[.int .i64 x.n, .int .i64 x.d, .string x.t] ∧ InB x := by
  obtain ⟨v0, v1, v2, y0, y1, y2, n, rfl, _, _, h0, h1, h2⟩ := Joins.open_agg3 Tryz.underlying61 (by kernel_rfl) (by kernel_rfl) hv h
  obtain ⟨n0, e0, _, b0⟩ := DataW.trod_int Tryz.underlying3 h0
  obtain ⟨n1, e1, _, b1⟩ := DataW.trod_int Tryz.underlying3 h1
  obtain ⟨s, e2, _, b2⟩ := DataW.trod_string Tryz.underlying9 h2
  simp at e0 e1 e2
  subst e0 e1 e2
  exact ⟨⟨n0, n1, s⟩, rfl, bounds_i64 b0, bounds_i64 b1, b2⟩

theorem eqSame (n d : Int) (t : ByteArray) (w : World) :
    Calls Tryz.prog 47 #[.agg #[.int .i64 n, .int .i64 d, .string t], .agg #[.int .i64 n, .int .i64 d, .string t]] w fun e w' => e = .returned (.bool true) ∧ Below w.heap.size w w' := by
  go_enter Tryz.func47, Tryz.ntmps47
  go_wp2
  go_ret
  exact ⟨rfl, ((Below.refl _ _).alloc (Nat.le_refl _) _).alloc (by simp) _⟩
theorem szYes (n d : Int) (t : ByteArray) (l : Int) (w : World) (h1 : l ≤ 1048576) (h : (t.size : Int) ≤ l) :
    Calls Tryz.prog 36 #[.agg #[.int .i64 n, .int .i64 d, .string t], .int .i64 l] w fun e w' => e = .returned (.int .i64 (l - t.size)) ∧ Below w.heap.size w w' := by
  go_enter Tryz.func36, Tryz.ntmps36
  go_wp2
  go_ret
  exact ⟨rfl, (Below.refl _ _).alloc (Nat.le_refl _) _⟩
theorem szNo (n d : Int) (t : ByteArray) (l : Int) (w : World) (h0 : 0 ≤ l) (h : l < (t.size : Int)) (ht : t.size ≤ 9223372036854775807) :
    Calls Tryz.prog 36 #[.agg #[.int .i64 n, .int .i64 d, .string t], .int .i64 l] w fun e w' => e = .returned (.int .i64 (-1)) ∧ Below w.heap.size w w' := by
  go_enter Tryz.func36, Tryz.ntmps36
  go_wp2
  go_ret
  exact ⟨rfl, (Below.refl _ _).alloc (Nat.le_refl _) _⟩
theorem toItemAny (n d : Int) (t : ByteArray) (w : World) :
    Calls Tryz.prog 40 #[.agg #[.int .i64 n, .int .i64 d, .string t]] w fun e w' => e = .returned (.agg #[.int .i64 n, .int .i64 d, .string t]) ∧ Below w.heap.size w w' := by
  go_enter Tryz.func40, Tryz.ntmps40
  go_wp2
  exact item_ret0 rfl rfl rfl (blk_old (blk_new _ _ (by simp))) ⟨rfl, (((Below.refl _ _).alloc (Nat.le_refl _) _).alloc (by simp) _).alloc (by simp; omega) _⟩
end Go.Proofs.YtikgcogiiohahaaGreatDoor
