/- More operations for a region that draws its order: stores of items, subtraction, texts. -/
import Derived.Test.YteigfhenbmhepaaReg
import Derived.Test.YteigfhenbmhepaaDrawCore
namespace Go.Proofs.Yteigfhenbmhepaa
set_option maxRecDepth 100000
open Go.RowKit
set_option linter.unusedVariables false

section
variable {P : Program} {ops : Array Oper} {Q : Exit → Act → World → Prop} {S : World → Prop}
variable {r : List (Nat × Bool)} {a : Act} {e : List (Nat × Value)} {w : World} {i d : Nat} {g : Option (Nat × Bool)} {v : Value}
/-- A store: where nothing else may come up. -/
theorem run_store {t : TypeId} {x y : Operand} {p u : Value} {w' : World} (ho : opAt ops i = some (none, .store t x y, g)) (hw : wantE ops a e g = some true)
    (hx : lookO a e x = p) (hy : lookO a e y = u) (hs : (Instr.storeAt t p u).run P w = .ok () w') (hS : S w') (h : RunE P ops Q S r a e w') : RunE P ops Q S ((i, false) :: r) a e w := by
  refine ⟨fun hk => ?_⟩
  obtain ⟨o, hi, h1, h2, h3⟩ := opAt_spec ho
  show wpOp P ops Q i (fun a' w' => (lastK ops i = true ∨ S w') ∧ seqH P ops Q S r a' w') (putAll a e) w
  unfold wpOp
  simp only [hi, if_pos (wantE_spec hk (by rw [h3]; exact hw))]
  left
  unfold Oper.wp
  have hrun : (execOp (putAll a e).eval o).run P w = .ok .skip w' := by
    rw [eval_putAll a e hk]
    unfold execOp
    rw [h2]
    simp only [hx, hy]
    rw [Sem.run_bind, hs]; rfl
  rw [hrun]
  simp only [Oper.upon]
  rw [h1]
  exact ⟨.inr hS, h.out hk⟩
theorem run_sub {x y : Operand} {t t' : TypeId} {k : IntKind} {p q z : Int} (ho : opAt ops i = some (some d, .binOp .sub t x y t', g)) (hd : Nat.blt d a.tmps.size = true)
    (hw : wantE ops a e g = some true) (hx : lookO a e x = .int k p) (hy : lookO a e y = .int k q) (hz : k.wrap (p - q) = z)
    (h : RunE P ops Q S r a ((d, .int k z) :: e) w) : RunE P ops Q S ((i, true) :: r) a e w :=
  run_yield ho hd hw (fun o w' h1 _ => by
    unfold execOp; rw [h1]; simp only [hx, hy]; subst hz
    simp [eqGuard, binOp, Op.intArith, go_sem] <;> rfl) h
theorem neq_str {w' : World} {t : TypeId} {x y : ByteArray} {X Y : Operand} {b : Bool} (h : (x.toList == y.toList) = b) : (do eqGuard .neq t X Y (.string x) (.string y); binOp .neq t (.string x) (.string y) : Sem Value).run P w' = .ok (.bool !b) w' := by
  subst h
  simp [eqGuard, go_sem, binOp, Op.stringOp]
theorem str_self (x : ByteArray) : (x.toList == x.toList) = true := beq_self_eq_true _
theorem str_empty : ((⟨#[]⟩ : ByteArray).toList == (⟨#[]⟩ : ByteArray).toList) = true := str_self _
theorem str_not {x : ByteArray} (h : x ≠ ⟨#[]⟩) : (x.toList == (⟨#[]⟩ : ByteArray).toList) = false := by
  rw [beq_eq_false_iff_ne]
  intro e
  apply h
  rw [ByteArray.toList_eq, ByteArray.toList_eq] at e
  apply ByteArray.ext
  exact Array.toList_inj.1 e
end
theorem store_item {w : World} {b : Nat} {x y z u v q : Value} (h : w.heap[b]? = some (.cells #[x, y, z] 62 (0, 0))) (hu : u.oneCell' = true) (hv : v.oneCell' = true) (hq : q.oneCell' = true) :
    (Instr.storeAt 62 (.pointer (some ⟨b, 0, none⟩)) (.agg #[u, v, q])).run Try.prog w = .ok () (w.setRow b #[u, v, q]) := by
  have e := run_storeVar_row (P := Try.prog) w b _ 62 #[x, y, z] #[u, v, q] h infoItem rfl (by simp [hu, hv, hq])
  simp only [Instr.storeAt, Instr.sureAddr, Sem.run_bind, Sem.run_pure, Result.andThen_ok, e]
theorem row_set {w : World} {b : Nat} {o : Array Value} {t : TypeId} {c : Array Value} (h : w.heap[b]? = some (.cells o t (0, 0))) : (w.setRow b c).heap[b]? = some (.cells c t (0, 0)) := setRow_heap w b o c t (0, 0) h
theorem row_old {w : World} {b k : Nat} {c : Array Value} {o : Option Obj} (h : w.heap[k]? = o) (hne : k ≠ b) : (w.setRow b c).heap[k]? = o := (setRow_other w b k c hne).trans h
theorem below_row {B : Nat} {a w : World} (h : Below B a w) {b : Nat} (hb : B ≤ b) (c : Array Value) : Below B a (w.setRow b c) :=
  ⟨h.os, h.tape, h.output, by have := h.size; simp [World.setRow]; exact this, fun k hk => (setRow_other w b k c (by omega)).trans (h.block k hk)⟩
theorem grown_drew' {w a : World} {row : Option Nat} (h : w.grownBy a row) : w.grownBy a.drew row := grown_trans h ⟨rfl, rfl, rfl, Nat.le_refl _, fun _ _ _ => rfl⟩
end Go.Proofs.Yteigfhenbmhepaa
