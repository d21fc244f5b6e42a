/- Operations of a region that draws its order, over blocks of cells of any kind. -/
import Derived.Test.YtikgcogiiohahaaGreatDoorRows
import Derived.Test.YtikgcogiiohahaaGreatDoorReg
import Derived.Test.YtikgcogiiohahaaGreatDoorVecSz
import Derived.WalkKit
import Derived.Lib.Hide
namespace Go.Proofs.YtikgcogiiohahaaGreatDoor
set_option maxRecDepth 100000
open Go.RowKit
set_option linter.unusedVariables false

/-- Each named block holds these cells, and all that lay there at the outset is as it was. -/
def HeldC (w v : World) (L : List (Nat × TypeId × Array Value)) : Prop :=
  Below w.heap.size w v ∧ ∀ q ∈ L, v.heap[q.1]? = some (.cells q.2.2 q.2.1 (0, 0))
theorem heldC_at {w v : World} {L : List (Nat × TypeId × Array Value)} {g : Nat} {t : TypeId} {C : Array Value} (h : HeldC w v L) (m : (g, t, C) ∈ L) : v.heap[g]? = some (.cells C t (0, 0)) := h.2 _ m
theorem heldC_call {w v v1 : World} {L : List (Nat × TypeId × Array Value)} (h : HeldC w v L) (hb : Below v.heap.size v v1) : HeldC w v1 L :=
  ⟨below_then h.1 hb, fun q hq => blk_below hb (h.2 q hq)⟩
theorem heldC_drew {w v : World} {L : List (Nat × TypeId × Array Value)} (h : HeldC w v L) : HeldC w v.drew L := ⟨below_drew' h.1, fun q hq => blk_drew (h.2 q hq)⟩
theorem heldC_one {w v : World} {g : Nat} {t : TypeId} {C : Array Value} (hb : Below w.heap.size w v) (h : v.heap[g]? = some (.cells C t (0, 0))) : HeldC w v [(g, t, C)] :=
  ⟨hb, fun q hq => by obtain rfl := List.mem_singleton.1 hq; exact h⟩
theorem heldC_two {w v : World} {g g' : Nat} {t t' : TypeId} {C C' : Array Value} (hb : Below w.heap.size w v) (h : v.heap[g]? = some (.cells C t (0, 0))) (h' : v.heap[g']? = some (.cells C' t' (0, 0))) : HeldC w v [(g, t, C), (g', t', C')] :=
  ⟨hb, fun q hq => by
    rcases List.mem_cons.1 hq with rfl | hq
    · exact h
    · obtain rfl := List.mem_singleton.1 hq; exact h'⟩

theorem load_strs {w' : World} {p : Addr} {v : Value} (h : w'.cell? p = some v) : (Instr.loadAt 24 (.pointer (some p))).run Tryz.prog w' = .ok v w' := by
  simp [Instr.loadAt, go_sem, h]
theorem load_its {w' : World} {p : Addr} {v : Value} (h : w'.cell? p = some v) : (Instr.loadAt 28 (.pointer (some p))).run Tryz.prog w' = .ok v w' := by
  simp [Instr.loadAt, go_sem, h]
theorem load_vecs {w' : World} {p : Addr} {v : Value} (h : w'.cell? p = some v) : (Instr.loadAt 29 (.pointer (some p))).run Tryz.prog w' = .ok v w' := by
  simp [Instr.loadAt, go_sem, h]
theorem load_text {w' : World} {p : Addr} {v : Value} (h : w'.cell? p = some v) : (Instr.loadAt 9 (.pointer (some p))).run Tryz.prog w' = .ok v w' := by
  simp [Instr.loadAt, go_sem, h]
theorem infoVecS : (Tryz.prog.info? 31).map (·.size) = some 8 := by kernel_rfl
theorem load_vec {w' : World} {b : Nat} {c0 c1 c2 c3 c4 c5 c6 c7 : Value} {t : TypeId} (h : w'.heap[b]? = some (.cells #[c0, c1, c2, c3, c4, c5, c6, c7] t (0, 0))) :
    (Instr.loadAt 31 (.pointer (some ⟨b, 0, none⟩))).run Tryz.prog w' = .ok (.agg #[c0, c1, c2, c3, c4, c5, c6, c7]) w' :=
  run_loadVar_row w' b t 31 #[c0, c1, c2, c3, c4, c5, c6, c7] (0, 0) _ h Tryz.underlying31 rfl infoVecS
theorem load_itm {w' : World} {b : Nat} {c0 c1 c2 : Value} {t : TypeId} (h : w'.heap[b]? = some (.cells #[c0, c1, c2] t (0, 0))) :
    (Instr.loadAt 45 (.pointer (some ⟨b, 0, none⟩))).run Tryz.prog w' = .ok (.agg #[c0, c1, c2]) w' :=
  run_loadVar_row w' b t 45 #[c0, c1, c2] (0, 0) _ h Tryz.underlying45 rfl infoItem
theorem addr_vec {w' : World} {b f : Nat} (hf : f < 8) : (Instr.fieldAt 31 (.pointer (some ⟨b, 0, none⟩)) f).run Tryz.prog w' = .ok (.pointer (some ⟨b, f, none⟩)) w' := by
  rcases (show f = 0 ∨ f = 1 ∨ f = 2 ∨ f = 3 ∨ f = 4 ∨ f = 5 ∨ f = 6 ∨ f = 7 by omega) with rfl | rfl | rfl | rfl | rfl | rfl | rfl | rfl <;> simp [Instr.fieldAt, go_sem] <;> rfl

section
variable {ops : Array Oper} {Q : Exit → Act → World → Prop} {w0 : World} {L : List (Nat × TypeId × Array Value)}
variable {r : List (Nat × Bool)} {a : Act} {e : List (Nat × Value)} {w : World} {i d : Nat} {g : Option (Nat × Bool)} {v : Value}
/-- A load of one cell of a named block. -/
theorem runC_cell {x : Operand} {t tt : TypeId} {b j : Nat} {C : Array Value} (hl : ∀ {w' : World} {p : Addr} {v : Value}, w'.cell? p = some v → (Instr.loadAt t (.pointer (some p))).run Tryz.prog w' = .ok v w')
    (ho : opAt ops i = some (some d, .load t x, g)) (hd : Nat.blt d a.tmps.size = true) (hw : wantE ops a e g = some true)
    (hx : lookO a e x = .pointer (some ⟨b, j, none⟩)) (m : (b, tt, C) ∈ L) (hc : C[j]? = some v) (h : RunE Tryz.prog ops Q (fun w' => HeldC w0 w' L) r a ((d, v) :: e) w) : RunE Tryz.prog ops Q (fun w' => HeldC w0 w' L) ((i, true) :: r) a e w :=
  run_load ho hd hw hx (fun w' hS => hl (cellOf (heldC_at hS m) hc)) h
theorem runC_vec {x : Operand} {tt : TypeId} {b : Nat} {c0 c1 c2 c3 c4 c5 c6 c7 : Value} (ho : opAt ops i = some (some d, .load 31 x, g)) (hd : Nat.blt d a.tmps.size = true) (hw : wantE ops a e g = some true)
    (hx : lookO a e x = .pointer (some ⟨b, 0, none⟩)) (m : (b, tt, #[c0, c1, c2, c3, c4, c5, c6, c7]) ∈ L) (h : RunE Tryz.prog ops Q (fun w' => HeldC w0 w' L) r a ((d, .agg #[c0, c1, c2, c3, c4, c5, c6, c7]) :: e) w) : RunE Tryz.prog ops Q (fun w' => HeldC w0 w' L) ((i, true) :: r) a e w :=
  run_load ho hd hw hx (fun w' hS => load_vec (heldC_at hS m)) h
theorem runC_itm {x : Operand} {tt : TypeId} {b : Nat} {c0 c1 c2 : Value} (ho : opAt ops i = some (some d, .load 45 x, g)) (hd : Nat.blt d a.tmps.size = true) (hw : wantE ops a e g = some true)
    (hx : lookO a e x = .pointer (some ⟨b, 0, none⟩)) (m : (b, tt, #[c0, c1, c2]) ∈ L) (h : RunE Tryz.prog ops Q (fun w' => HeldC w0 w' L) r a ((d, .agg #[c0, c1, c2]) :: e) w) : RunE Tryz.prog ops Q (fun w' => HeldC w0 w' L) ((i, true) :: r) a e w :=
  run_load ho hd hw hx (fun w' hS => load_itm (heldC_at hS m)) h
theorem runC_partV {S : World → Prop} {x : Operand} {f b : Nat} (hf : Nat.blt f 8 = true) (ho : opAt ops i = some (some d, .fieldAddr 31 x f, g)) (hd : Nat.blt d a.tmps.size = true) (hw : wantE ops a e g = some true)
    (hx : lookO a e x = .pointer (some ⟨b, 0, none⟩)) (h : RunE Tryz.prog ops Q S r a ((d, .pointer (some ⟨b, f, none⟩)) :: e) w) : RunE Tryz.prog ops Q S ((i, true) :: r) a e w :=
  run_addr ho hd hw hx (fun w' => addr_vec (Nat.le_of_ble_eq_true hf)) h
theorem runC_partI {S : World → Prop} {x : Operand} {f b : Nat} (hf : Nat.blt f 3 = true) (ho : opAt ops i = some (some d, .fieldAddr 45 x f, g)) (hd : Nat.blt d a.tmps.size = true) (hw : wantE ops a e g = some true)
    (hx : lookO a e x = .pointer (some ⟨b, 0, none⟩)) (h : RunE Tryz.prog ops Q S r a ((d, .pointer (some ⟨b, f, none⟩)) :: e) w) : RunE Tryz.prog ops Q S ((i, true) :: r) a e w :=
  run_addr ho hd hw hx (fun w' => addr_item (Nat.le_of_ble_eq_true hf)) h
end
section
variable {P : Program} {ops : Array Oper} {Q : Exit → Act → World → Prop} {S : World → Prop}
variable {r : List (Nat × Bool)} {a : Act} {e : List (Nat × Value)} {w : World} {i d : Nat} {g : Option (Nat × Bool)} {v : Value}
theorem run_len {x : Operand} {t : TypeId} {b : Option Addr} {n c : Nat} (ho : opAt ops i = some (some d, .call { callee := .builtin .len, args := [x].toArray, argTypes := [t].toArray }, g)) (hd : Nat.blt d a.tmps.size = true)
    (hw : wantE ops a e g = some true) (hx : lookO a e x = .slice b n c) (ht : P.underlying t = some (.slice (P.elem t)))
    (h : RunE P ops Q S r a ((d, .int .i64 n) :: e) w) : RunE P ops Q S ((i, true) :: r) a e w :=
  run_yield ho hd hw (fun o w' h1 _ => by
    unfold execOp; rw [h1]
    have hx' : [x].toArray.map (lookO a e) = #[.slice b n c] := by simp [hx]
    have key : ∀ cs, (builtin .len #[t] o.type cs ([x].toArray.map (lookO a e))).run P w' = .ok (.value (.int .i64 n)) w' := fun cs => by
      rw [hx']
      show (do pure (.value (← Builtin.len_ #[t] o.type #[.slice b n c])) : Sem Next).run P w' = _
      exact run_v (run_len_slice _ t o.type b n c ht)
    exact key #[]) h
end
end Go.Proofs.YtikgcogiiohahaaGreatDoor
