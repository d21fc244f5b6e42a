/- Functions that return a vector and a text. -/
import Derived.Test.YteigfhenbmhepaaRows
import Derived.Test.YteigfhenbmhepaaVecLog
import Derived.Laws.ResultCell
import Derived.WalkKit
import Derived.OwnWalk
import Derived.Deep.DeepCutAuto
import Derived.Lib.Hide
namespace Go.Proofs.Yteigfhenbmhepaa
open Go.RowKit
set_option maxRecDepth 100000
set_option linter.unusedVariables false

/-- A vector that lies in the result's block as it was made, and a text. -/
theorem vec_ret0S {fn : Func} {R : Ending → World → Prop} {act : Act} {w : World} {g : Nat} {p q : Tmp} {a b c d e f h i s : Value} {t : TypeId} {fr : Nat × Nat}
    (hfn : fn.results = #[.cell p 27, .tmp q]) (hp : act.tmps.getD p undef = .pointer (some ⟨g, 0, none⟩)) (hq : act.tmps.getD q undef = s) (hd : act.defers = []) (hg : w.heap[g]? = some (.cells #[a, b, c, d, e, f, h, i] t fr))
    (hR : R (.returned (.tuple #[.agg #[a, b, c, d, e, f, h, i], s])) w) : bodyPost Try.prog fn R .ret act w :=
  bodyPost_ret (by
    have e1 := run_loadVar_row (P := Try.prog) w g t 27 #[a, b, c, d, e, f, h, i] fr _ hg Try.underlying27 rfl infoVec
    rw [results_cell_tmp hfn, hp, hq]
    show ((loadVar 27 ⟨g, 0, none⟩).run Try.prog w).andThen _ = _
    rw [e1]; rfl) hd hR
theorem vec_endS {fn : Func} {R : Ending → World → Prop} {act : Act} {w : World} {g : Nat} {p q : Tmp} {s z0 z1 z2 z3 z4 z5 z6 z7 c0 c1 c2 c3 c4 c5 c6 c7 : Value} {t : TypeId}
    (hfn : fn.results = #[.cell p 27, .tmp q]) (hp : act.tmps.getD p undef = .pointer (some ⟨g, 0, none⟩)) (hq : act.tmps.getD q undef = s) (hd : act.defers = []) (hg : w.heap[g]? = some (.cells #[z0, z1, z2, z3, z4, z5, z6, z7] t (0, 0)))
    (hR : R (.returned (.tuple #[.agg #[c0, c1, c2, c3, c4, c5, c6, c7], s])) (put8 w g 0 c0 c1 c2 c3 c4 c5 c6 c7)) :
    bodyPost Try.prog fn R .ret act ((((((((w.setCell ⟨g, 0, none⟩ c0).setCell ⟨g, 1, none⟩ c1).setCell ⟨g, 2, none⟩ c2).setCell ⟨g, 3, none⟩ c3).setCell ⟨g, 4, none⟩ c4).setCell ⟨g, 5, none⟩ c5).setCell ⟨g, 6, none⟩ c6).setCell ⟨g, 7, none⟩ c7) :=
  vec_ret0S hfn hp hq hd (put8_lit hg) hR
theorem ResV.withS {d : Nat} {V : Vec} {w : World} {y : Value} {w' : World} {s : ByteArray} (h : ResV d V w (.returned y) w') : ResVS d V s w (.returned (.tuple #[y, .string s])) w' := by
  obtain ⟨z, e, r⟩ := h
  cases e
  exact ⟨_, rfl, r⟩
/-- "result is too large" -/
def bigB : ByteArray := ⟨#[114, 101, 115, 117, 108, 116, 32, 105, 115, 32, 116, 111, 111, 32, 108, 97, 114, 103, 101]⟩
theorem zeroS (s : ByteArray) (w w' : World) (hb : Below w.heap.size w w') : ResVS 1 noV s w (.returned (.tuple #[.agg #[.int .i64 0, .slice none 0 0, .slice none 0 0, .slice none 0 0, .slice none 0 0, .slice none 0 0, .int .i64 0, .int .i64 0], .string s])) w' := ⟨_, rfl, own_zero _ _ _, hb⟩
section
variable {P : Program} {ops : Array Oper} {Q : Exit → Act → World → Prop} {S : World → Prop}
variable {r : List (Nat × Bool)} {a : Act} {e : List (Nat × Value)} {w : World} {i d : Nat} {g : Option (Nat × Bool)} {v : Value}
theorem run_add {x y : Operand} {t t' : TypeId} {k : IntKind} {p q z : Int} (ho : opAt ops i = some (some d, .binOp .add t x y t', g)) (hd : Nat.blt d a.tmps.size = true)
    (hw : wantE ops a e g = some true) (hx : lookO a e x = .int k p) (hy : lookO a e y = .int k q) (hz : k.wrap (p + q) = z)
    (h : RunE P ops Q S r a ((d, .int k z) :: e) w) : RunE P ops Q S ((i, true) :: r) a e w :=
  run_yield ho hd hw (fun o w' h1 _ => by
    unfold execOp; rw [h1]; simp only [hx, hy]; subst hz
    simp [eqGuard, binOp, Op.intArith, go_sem] <;> rfl) h
end
end Go.Proofs.Yteigfhenbmhepaa
