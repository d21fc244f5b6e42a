/- Vectors of the laws' own type in a region that draws its order; a new block filled with a vector. -/
import Derived.Test.YtddebgmjolojeaaRows
import Derived.Test.YtddebgmjolojeaaRegV
import Derived.Test.YtddebgmjolojeaaVecTo
import Derived.WalkKit
namespace Go.Proofs.Ytddebgmjolojeaa
set_option maxRecDepth 100000
open Go.RowKit
set_option linter.unusedVariables false

theorem infoLVec : (Try.prog.info? 26).map (·.size) = some 8 := by kernel_rfl
theorem load_lvec {w' : World} {b : Nat} {c0 c1 c2 c3 c4 c5 c6 c7 : Value} {t : TypeId} (h : w'.heap[b]? = some (.cells #[c0, c1, c2, c3, c4, c5, c6, c7] t (0, 0))) :
    (Instr.loadAt 26 (.pointer (some ⟨b, 0, none⟩))).run Try.prog w' = .ok (.agg #[c0, c1, c2, c3, c4, c5, c6, c7]) w' :=
  run_loadVar_row w' b t 26 #[c0, c1, c2, c3, c4, c5, c6, c7] (0, 0) _ h Try.underlying26 rfl infoLVec
section
variable {ops : Array Oper} {Q : Exit → Act → World → Prop} {w0 : World} {L : List (Nat × TypeId × Array Value)}
variable {r : List (Nat × Bool)} {a : Act} {e : List (Nat × Value)} {w : World} {i d : Nat} {g : Option (Nat × Bool)} {v : Value}
theorem runC_lvec {x : Operand} {tt : TypeId} {b : Nat} {c0 c1 c2 c3 c4 c5 c6 c7 : Value} (ho : opAt ops i = some (some d, .load 26 x, g)) (hd : Nat.blt d a.tmps.size = true) (hw : wantE ops a e g = some true)
    (hx : lookO a e x = .pointer (some ⟨b, 0, none⟩)) (m : (b, tt, #[c0, c1, c2, c3, c4, c5, c6, c7]) ∈ L) (h : RunE Try.prog ops Q (fun w' => HeldC w0 w' L) r a ((d, .agg #[c0, c1, c2, c3, c4, c5, c6, c7]) :: e) w) : RunE Try.prog ops Q (fun w' => HeldC w0 w' L) ((i, true) :: r) a e w :=
  run_load ho hd hw hx (fun w' hS => load_lvec (heldC_at hS m)) h
end
/-- A new block that was filled with the eight fields of a vector. -/
theorem put_new (w : World) (z0 z1 z2 z3 z4 z5 z6 z7 c0 c1 c2 c3 c4 c5 c6 c7 : Value) (t : TypeId) :
    ∃ W, ((((((((w.alloc (.cells #[z0, z1, z2, z3, z4, z5, z6, z7] t)).setCell ⟨w.heap.size, 0, none⟩ c0).setCell ⟨w.heap.size, 1, none⟩ c1).setCell ⟨w.heap.size, 2, none⟩ c2).setCell ⟨w.heap.size, 3, none⟩ c3).setCell ⟨w.heap.size, 4, none⟩ c4).setCell ⟨w.heap.size, 5, none⟩ c5).setCell ⟨w.heap.size, 6, none⟩ c6).setCell ⟨w.heap.size, 7, none⟩ c7 = W ∧
      W.heap[w.heap.size]? = some (.cells #[c0, c1, c2, c3, c4, c5, c6, c7] t (0, 0)) ∧ Below w.heap.size w W := by
  refine ⟨_, rfl, ?_, ?_⟩
  · have h : (w.alloc (.cells #[z0, z1, z2, z3, z4, z5, z6, z7] t)).heap[w.heap.size]? = some (.cells #[z0, z1, z2, z3, z4, z5, z6, z7] t (0, 0)) := blk_new w _ rfl
    exact put8_lit h
  · have hB : w.heap.size ≤ w.heap.size := Nat.le_refl _
    exact (Below.setCell (Below.setCell (Below.setCell (Below.setCell (Below.setCell (Below.setCell (Below.setCell (Below.setCell (below1 w _) (p := ⟨w.heap.size, 0, none⟩) hB c0) (p := ⟨w.heap.size, 1, none⟩) hB c1) (p := ⟨w.heap.size, 2, none⟩) hB c2) (p := ⟨w.heap.size, 3, none⟩) hB c3) (p := ⟨w.heap.size, 4, none⟩) hB c4) (p := ⟨w.heap.size, 5, none⟩) hB c5) (p := ⟨w.heap.size, 6, none⟩) hB c6) (p := ⟨w.heap.size, 7, none⟩) hB c7)
end Go.Proofs.Ytddebgmjolojeaa
