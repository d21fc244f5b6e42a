/- The cursor of the laws' own draws. -/
import Derived.Test.YtpekdmocgjjhnaaRows
import Derived.Deep.OwnRows
import Derived.Test.YtpekdmocgjjhnaaReg
import Derived.Test.YtpekdmocgjjhnaaRegV
import Derived.Test.YtpekdmocgjjhnaaVecTo
import Derived.Test.YtpekdmocgjjhnaaVecMk5
import Derived.Test.YtpekdmocgjjhnaaVecEq
import Derived.Test.YtpekdmocgjjhnaaVecMk
import Derived.Test.YtpekdmocgjjhnaaVecCntI
import Derived.Test.YtpekdmocgjjhnaaVecCnt
import Derived.Test.YtpekdmocgjjhnaaNumMake
import Derived.Test.YtpekdmocgjjhnaaNumGcd
import Derived.Test.YtpekdmocgjjhnaaVecStr
import Derived.Test.YtpekdmocgjjhnaaVecStrI
import Derived.Test.YtpekdmocgjjhnaaVecIs
import Derived.Test.YtpekdmocgjjhnaaVecIt
import Derived.Test.YtpekdmocgjjhnaaNumMath
import Derived.WalkKit
import Derived.WalkSpells
import Derived.WalkLawsBesides
import Derived.IntWalk
import Derived.Lib.Hide
import Derived.Deep.QuietTactic
import Derived.BigQuiet
import Derived.Lib.SmallJoins
import Derived.Below
import Derived.Laws.AppendOwn
import Derived.Great.BuildSlice
import Derived.OwnWalk
import Derived.ChangeSlices
import Derived.ProofKit
import Derived.OpenShut
import Derived.Deep.DeepCutAuto
import Derived.Laws.ResultCell
import Derived.RegionTactic
import Derived.Deep.MidRow
import Derived.Laws.EntriesVeiled
import Derived.Lib.Strings
import Derived.Maps.AppendAt
import Derived.ChangeAlike
import Derived.Shelf.Abstract
import Derived.Lib.SliceRun
import Derived.Laws.CopyOwn
import Derived.Laws.MakeOwn
namespace Go.Proofs.Ytpekdmocgjjhnaa
open Go.RowKit

/-- The bytes that the draws read. -/
def CodeAt (B : Nat) (w : World) (a : Option Addr) (n : Nat) : Prop := ∀ i, i < n → ∃ b off, a = some ⟨b, off, none⟩ ∧ b < B ∧ ∃ x : Int, 0 ≤ x ∧ x < 256 ∧ w.cell? ⟨b, off + i, none⟩ = some (.int .u8 x)
theorem CodeAt.below {B : Nat} {w w1 : World} {a : Option Addr} {n : Nat} (h : CodeAt B w a n) (hb : Below B w w1) : CodeAt B w1 a n := by
  intro i hi
  obtain ⟨b, off, e, hlt, x, h0, h1, hc⟩ := h i hi
  exact ⟨b, off, e, hlt, x, h0, h1, by rw [hb.cell hlt]; exact hc⟩
theorem CodeAt.mono {B B' : Nat} {w : World} {a : Option Addr} {n : Nat} (h : CodeAt B w a n) (hB : B ≤ B') : CodeAt B' w a n := by
  intro i hi
  obtain ⟨b, off, e, hlt, r⟩ := h i hi
  exact ⟨b, off, e, by omega, r⟩
end Go.Proofs.Ytpekdmocgjjhnaa

/- More operations for a region that draws its order: stores of items, subtraction, texts. -/
namespace Go.Proofs.Ytpekdmocgjjhnaa
set_option maxRecDepth 100000
open Go.RowKit
set_option linter.unusedVariables false

section
variable {P : Program} {ops : Array Oper} {Q : Exit → Act → World → Prop} {S : World → Prop}
variable {r : List (Nat × Bool)} {a : Act} {e : List (Nat × Value)} {w : World} {i d : Nat} {g : Option (Nat × Bool)} {v : Value}
theorem str_not {x : ByteArray} (h : x ≠ ⟨#[]⟩) : (x.toList == (⟨#[]⟩ : ByteArray).toList) = false := by
  rw [beq_eq_false_iff_ne]
  intro e
  apply h
  rw [ByteArray.toList_eq, ByteArray.toList_eq] at e
  apply ByteArray.ext
  exact Array.toList_inj.1 e
end
theorem store_item {w : World} {b : Nat} {x y z u v q : Value} (h : w.heap[b]? = some (.cells #[x, y, z] 63 (0, 0))) (hu : u.oneCell' = true) (hv : v.oneCell' = true) (hq : q.oneCell' = true) :
    (Instr.storeAt 63 (.pointer (some ⟨b, 0, none⟩)) (.agg #[u, v, q])).run Try.prog w = .ok () (w.setRow b #[u, v, q]) := by
  have e := run_storeVar_row (P := Try.prog) w b _ 63 #[x, y, z] #[u, v, q] h infoItem rfl (by simp [hu, hv, hq])
  simp only [Instr.storeAt, Instr.sureAddr, Sem.run_bind, Sem.run_pure, Result.andThen_ok, e]
theorem row_set {w : World} {b : Nat} {o : Array Value} {t : TypeId} {c : Array Value} (h : w.heap[b]? = some (.cells o t (0, 0))) : (w.setRow b c).heap[b]? = some (.cells c t (0, 0)) := setRow_heap w b o c t (0, 0) h
theorem row_old {w : World} {b k : Nat} {c : Array Value} {o : Option Obj} (h : w.heap[k]? = o) (hne : k ≠ b) : (w.setRow b c).heap[k]? = o := (setRow_other w b k c hne).trans h
theorem below_row {B : Nat} {a w : World} (h : Below B a w) {b : Nat} (hb : B ≤ b) (c : Array Value) : Below B a (w.setRow b c) :=
  ⟨h.os, h.tape, h.output, by have := h.size; simp [World.setRow]; exact this, fun k hk => (setRow_other w b k c (by omega)).trans (h.block k hk)⟩
end Go.Proofs.Ytpekdmocgjjhnaa

/- Slices of items that a function of vectors builds by append, and the operations for it in a region that draws its order. -/
namespace Go.Proofs.Ytpekdmocgjjhnaa
open Go.RowKit
set_option maxRecDepth 100000
set_option linter.unusedVariables false

section
variable {P : Program} {ops : Array Oper} {Q : Exit → Act → World → Prop} {S : World → Prop}
variable {r : List (Nat × Bool)} {a : Act} {e : List (Nat × Value)} {w : World} {i d : Nat} {g : Option (Nat × Bool)} {v : Value}
/-- An operation that changes the world, where nothing else may come up. -/
theorem run_eff {op : Op} {w' : World} (ho : opAt ops i = some (some d, op, g)) (hd : Nat.blt d a.tmps.size = true) (hw : wantE ops a e g = some true)
    (hx : ∀ o : Oper, o.op = op → (execOp (lookO a e) o).run P w = .ok (.value v) w') (hS : S w') (h : RunE P ops Q S r a ((d, v) :: e) w') : RunE P ops Q S ((i, false) :: r) a e w := by
  refine ⟨fun hk => ?_⟩
  obtain ⟨o, hi, h1, h2, h3⟩ := opAt_spec ho
  show wpOp P ops Q i (fun a' w' => (lastK ops i = true ∨ S w') ∧ seqH P ops Q S r a' w') (putAll a e) w
  unfold wpOp
  simp only [hi, if_pos (wantE_spec hk (by rw [h3]; exact hw))]
  left
  unfold Oper.wp
  rw [eval_putAll a e hk, hx o h2]
  simp only [Oper.upon]
  rw [h1]
  exact ⟨.inr hS, h.out (keysIn_cons hd hk)⟩
/-- The last store: it waits for all the others, so nothing is asked of the world behind it. -/
theorem run_last {t : TypeId} {x y : Operand} {p u : Value} {w' : World} (hl : lastK ops i = true) (ho : opAt ops i = some (none, .store t x y, g)) (hw : wantE ops a e g = some true)
    (hx : lookO a e x = p) (hy : lookO a e y = u) (hs : (Instr.storeAt t p u).run P w = .ok () w') (h : RunE P ops Q S r a e w') : RunE P ops Q S ((i, false) :: r) a e w := by
  refine ⟨fun hk => ?_⟩
  obtain ⟨o, hi, h1, h2, h3⟩ := opAt_spec ho
  show wpOp P ops Q i (fun a' w' => (lastK ops i = true ∨ S w') ∧ seqH P ops Q S r a' w') (putAll a e) w
  unfold wpOp
  simp only [hi, if_pos (wantE_spec hk (by rw [h3]; exact hw))]
  left
  unfold Oper.wp
  have hrun : (execOp (putAll a e).eval o).run P w = .ok .skip w' := by
    rw [eval_putAll a e hk]
    unfold execOp
    rw [h2]
    simp only [hx, hy]
    rw [Sem.run_bind, hs]; rfl
  rw [hrun]
  simp only [Oper.upon]
  rw [h1]
  exact ⟨.inl hl, h.out hk⟩
end

/-- No operation that waits for all the others stands ahead of another one. -/
def seqTail (ops : Array Oper) : List (Nat × Bool) → Bool
  | [] => true
  | (_, true) :: r => seqTail ops r
  | (i, false) :: r => (!lastK ops i || r.isEmpty) && seqTail ops r
def itCells : List It → List Value
  | [] => []
  | x :: l => .int .i64 x.n :: .int .i64 x.d :: .string x.t :: itCells l
theorem itCells_at : ∀ (l : List It) (i : Nat), i < l.length → (itCells l)[i * 3]? = some (.int .i64 (l.getD i noI).n) ∧ (itCells l)[i * 3 + 1]? = some (.int .i64 (l.getD i noI).d) ∧ (itCells l)[i * 3 + 2]? = some (.string (txtI l i))
  | [], _, h => by cases h
  | x :: l, 0, _ => ⟨rfl, rfl, rfl⟩
  | x :: l, i + 1, h => by
    have h := itCells_at l i (by simpa using h)
    have e1 : (x :: l).getD (i + 1) noI = l.getD i noI := by simp
    have e2 : txtI (x :: l) (i + 1) = txtI l i := by unfold txtI; rw [e1]
    rw [e1, e2, show (i + 1) * 3 = i * 3 + 3 by omega, show i * 3 + 3 + 1 = (i * 3 + 1) + 3 by omega, show i * 3 + 3 + 2 = (i * 3 + 2) + 3 by omega]
    exact h
/-- A row of the call's own that holds the items of l. -/
theorem own_of_its {w : World} {B : Nat} {v : Value} {l : List It} (h : w.ownsRow B 63 3 v l.length (itCells l)) :
    ∃ a c F, v = .slice a l.length c ∧ OwnIts w a l F ∧ F.Nodup ∧ (∀ b ∈ F, B ≤ b ∧ b < w.heap.size) ∧ l.length ≤ c := by
  obtain ⟨_, h⟩ := h
  rcases h with ⟨rfl, h0⟩ | ⟨g, cap, cur, rfl, hB, hg, hc, _, hs, ht⟩
  · have : l = [] := List.eq_nil_of_length_eq_zero h0
    subst this
    exact ⟨none, 0, [], rfl, .inl ⟨rfl, rfl⟩, List.nodup_nil, (fun _ h => by cases h), Nat.le_refl _⟩
  · refine ⟨some ⟨g, 0, none⟩, cap, [g], rfl, .inr ⟨g, cur, rfl, rfl, hg, by omega, fun i hi => ?_⟩, by simp, fun b hb => ?_, hc⟩
    · have key : ∀ j, j < l.length * 3 → cur[j]? = (itCells l)[j]? := fun j hj => by
        rw [← ht, List.getElem?_take_of_lt hj, Array.getElem?_toList]
      obtain ⟨h0, h1, h2⟩ := itCells_at l i hi
      exact ⟨(key _ (by omega)).trans h0, (key _ (by omega)).trans h1, (key _ (by omega)).trans h2⟩
    · obtain rfl := List.mem_singleton.1 hb
      exact ⟨hB, (Array.getElem?_eq_some_iff.1 hg).1⟩
theorem infoItm3 : (Try.prog.info? 63).map (fun i => (i.zero, i.size, i.bytes)) = some (some (.agg #[.int .i64 0, .int .i64 0, .string ⟨#[]⟩]), 3, 32) := by kernel_rfl
section
variable {ops : Array Oper} {Q : Exit → Act → World → Prop} {S : World → Prop}
variable {r : List (Nat × Bool)} {a : Act} {e : List (Nat × Value)} {w : World} {i d : Nat} {g : Option (Nat × Bool)} {v : Value}
end
theorem ownsRow_below {w w' : World} {base : Nat} {el : TypeId} {size n : Nat} {v : Value} {xs : List Value} (h : w.ownsRow base el size v n xs) (hb : Below w.heap.size w w') : w'.ownsRow base el size v n xs := by
  obtain ⟨hl, h⟩ := h
  refine ⟨hl, ?_⟩
  rcases h with h | ⟨g, cap, cur, e, hB, hg, r⟩
  · exact .inl h
  · exact .inr ⟨g, cap, cur, e, hB, blk_below hb hg, r⟩
section
variable {ops : Array Oper} {Q : Exit → Act → World → Prop} {S : World → Prop} {w0 : World} {L : List (Nat × TypeId × Array Value)}
variable {r : List (Nat × Bool)} {a : Act} {e : List (Nat × Value)} {w : World} {i d : Nat} {g : Option (Nat × Bool)} {v : Value}
theorem addr_add (b off j : Nat) : (⟨b, off, none⟩ : Addr).add j = ⟨b, off + j, none⟩ := by
  unfold Addr.add; split
  · rename_i h; subst h; rfl
  · rfl
end
end Go.Proofs.Ytpekdmocgjjhnaa

/- Vectors of the laws' own type in a region that draws its order; a new block filled with a vector. -/
namespace Go.Proofs.Ytpekdmocgjjhnaa
set_option maxRecDepth 100000
open Go.RowKit
set_option linter.unusedVariables false

theorem infoLVec : (Try.prog.info? 26).map (·.size) = some 8 := by kernel_rfl
theorem load_lvec {w' : World} {b : Nat} {c0 c1 c2 c3 c4 c5 c6 c7 : Value} {t : TypeId} (h : w'.heap[b]? = some (.cells #[c0, c1, c2, c3, c4, c5, c6, c7] t (0, 0))) :
    (Instr.loadAt 26 (.pointer (some ⟨b, 0, none⟩))).run Try.prog w' = .ok (.agg #[c0, c1, c2, c3, c4, c5, c6, c7]) w' :=
  run_loadVar_row w' b t 26 #[c0, c1, c2, c3, c4, c5, c6, c7] (0, 0) _ h Try.underlying26 rfl infoLVec
section
variable {ops : Array Oper} {Q : Exit → Act → World → Prop} {w0 : World} {L : List (Nat × TypeId × Array Value)}
variable {r : List (Nat × Bool)} {a : Act} {e : List (Nat × Value)} {w : World} {i d : Nat} {g : Option (Nat × Bool)} {v : Value}
theorem runC_lvec {x : Operand} {tt : TypeId} {b : Nat} {c0 c1 c2 c3 c4 c5 c6 c7 : Value} (ho : opAt ops i = some (some d, .load 26 x, g)) (hd : Nat.blt d a.tmps.size = true) (hw : wantE ops a e g = some true)
    (hx : lookO a e x = .pointer (some ⟨b, 0, none⟩)) (m : (b, tt, #[c0, c1, c2, c3, c4, c5, c6, c7]) ∈ L) (h : RunE Try.prog ops Q (fun w' => HeldC w0 w' L) r a ((d, .agg #[c0, c1, c2, c3, c4, c5, c6, c7]) :: e) w) : RunE Try.prog ops Q (fun w' => HeldC w0 w' L) ((i, true) :: r) a e w :=
  run_load ho hd hw hx (fun w' hS => load_lvec (heldC_at hS m)) h
end
end Go.Proofs.Ytpekdmocgjjhnaa

/- Results that are vectors, in blocks of a range of their own; what a mark leaves alone. -/
namespace Go.Proofs.Ytpekdmocgjjhnaa
open Go.RowKit
set_option maxRecDepth 100000
set_option linter.unusedVariables false

/-- The value is the vector V; each of its slices lies in a block of its own from lo to hi. -/
structure Own (d : Nat) (V : Vec) (y : Value) (lo hi : Nat) (w : World) : Prop where
  out : ∃ F, OwnVec w d V y F ∧ F.Nodup ∧ ∀ b ∈ F, lo ≤ b ∧ b < hi
/-- Nothing but blocks from lo to hi has changed. -/
structure Within (lo hi : Nat) (w w' : World) : Prop where
  os : w'.os = w.os
  tape : w'.tape = w.tape
  output : w'.output = w.output
  size : w.heap.size ≤ w'.heap.size
  block : ∀ b, b < w.heap.size → (b < lo ∨ hi ≤ b) → w'.heap[b]? = w.heap[b]?
theorem Touch.within {F : List Nat} {lo hi : Nat} {w w' : World} (h : Touch F w w') (hF : ∀ b ∈ F, lo ≤ b ∧ b < hi) : Within lo hi w w' :=
  ⟨h.os, h.tape, h.output, h.size, fun b hb hr => h.block b hb (fun hm => by have := hF b hm; omega)⟩
theorem Within.below {lo hi B : Nat} {w w' : World} (h : Within lo hi w w') (hB : B ≤ lo) (hw : B ≤ w.heap.size) : Below B w w' :=
  ⟨h.os, h.tape, h.output, h.size, fun b hb => h.block b (by omega) (.inl (by omega))⟩
theorem Within.blk {lo hi b : Nat} {w w' : World} {o : Obj} (h : Within lo hi w w') (hr : b < lo ∨ hi ≤ b) (hb : w.heap[b]? = some o) : w'.heap[b]? = some o :=
  (h.block b (Array.getElem?_eq_some_iff.1 hb).1 hr).trans hb
theorem Own.below {d : Nat} {V : Vec} {y : Value} {lo hi : Nat} {w w' : World} (h : Own d V y lo hi w) (hb : Below w.heap.size w w') (hh : hi ≤ w.heap.size) : Own d V y lo hi w' := by
  obtain ⟨F, h1, h2, h3⟩ := h.out
  exact ⟨F, h1.kept _ _ _ _ (fun b hm => hb.block b (by have := h3 b hm; omega)), h2, h3⟩
theorem Own.within {d : Nat} {V : Vec} {y : Value} {lo hi lo' hi' : Nat} {w w' : World} (h : Own d V y lo hi w) (k : Within lo' hi' w w') (hr : hi ≤ lo' ∨ hi' ≤ lo) (hh : hi ≤ w.heap.size) : Own d V y lo hi w' := by
  obtain ⟨F, h1, h2, h3⟩ := h.out
  exact ⟨F, h1.kept _ _ _ _ (fun b hm => k.block b (by have := h3 b hm; omega) (by have := h3 b hm; omega)), h2, h3⟩
theorem Own.vat {d : Nat} {V : Vec} {y : Value} {lo hi : Nat} {w : World} (h : Own d V y lo hi w) {H : Nat} (hh : hi ≤ H) : VecAt 0 H w d V y := by
  obtain ⟨F, h1, _, h3⟩ := h.out
  exact h1.vecAt _ _ _ _ (fun b hm => by have := h3 b hm; omega)
theorem Own.wide {d : Nat} {V : Vec} {y : Value} {lo hi lo' hi' : Nat} {w : World} (h : Own d V y lo hi w) (h0 : lo' ≤ lo) (h1 : hi ≤ hi') : Own d V y lo' hi' w := by
  obtain ⟨F, a, b, c⟩ := h.out
  exact ⟨F, a, b, fun g hg => by have := c g hg; omega⟩
theorem Own.agg {d : Nat} {V : Vec} {y : Value} {lo hi : Nat} {w : World} (h : Own d V y lo hi w) : ∃ (k : Int) (a1 : Option Addr) (n1 m1 : Nat) (a2 : Option Addr) (n2 m2 : Nat) (a3 : Option Addr) (n3 m3 : Nat) (a4 : Option Addr) (n4 m4 : Nat) (a5 : Option Addr) (n5 m5 : Nat) (code env : Int), y = .agg #[.int .i64 k, .slice a1 n1 m1, .slice a2 n2 m2, .slice a3 n3 m3, .slice a4 n4 m4, .slice a5 n5 m5, .int .i64 code, .int .i64 env] := by
  obtain ⟨F, h1, _⟩ := h.out
  exact h1.agg
/-- A function's answer: a vector in new blocks. -/
def ResV (d : Nat) (V : Vec) (w : World) (e : Ending) (w' : World) : Prop := ∃ y, e = .returned y ∧ Own d V y w.heap.size w'.heap.size w' ∧ Below w.heap.size w w'
/-- A function's answer: a vector in new blocks, and a text. -/
def ResVS (d : Nat) (V : Vec) (s : ByteArray) (w : World) (e : Ending) (w' : World) : Prop := ∃ y, e = .returned (.tuple #[y, .string s]) ∧ Own d V y w.heap.size w'.heap.size w' ∧ Below w.heap.size w w'
end Go.Proofs.Ytpekdmocgjjhnaa

/- Slices of ints in memory, and the laws' own helpers on them. -/
namespace Go.Proofs.Ytpekdmocgjjhnaa
set_option maxRecDepth 100000
open Go.RowKit

/-- The slice at a holds the n ints f 0, f 1, .., in a block below B. -/
def IntsAt (B : Nat) (w : World) (a : Option Addr) (n : Nat) (f : Nat → Int) : Prop := ∀ i, i < n → ∃ b off, a = some ⟨b, off, none⟩ ∧ b < B ∧ w.cell? ⟨b, off + i, none⟩ = some (.int .i64 (f i))
theorem IntsAt.below {B : Nat} {w w1 : World} {a : Option Addr} {n : Nat} {f : Nat → Int} (h : IntsAt B w a n f) (hb : Below B w w1) : IntsAt B w1 a n f := by
  intro i hi
  obtain ⟨b, off, e, hlt, hc⟩ := h i hi
  exact ⟨b, off, e, hlt, by rw [hb.cell hlt]; exact hc⟩
theorem IntsAt.mono {B B' : Nat} {w : World} {a : Option Addr} {n : Nat} {f : Nat → Int} (h : IntsAt B w a n f) (hB : B ≤ B') : IntsAt B' w a n f := by
  intro i hi
  obtain ⟨b, off, e, hlt, hc⟩ := h i hi
  exact ⟨b, off, e, by omega, hc⟩
/-- Block b holds the cells C. -/
def RowI (w : World) (b : Nat) (C : Array Value) : Prop := w.heap[b]? = some (.cells C 3 (0, 0))
theorem RowI.cell {w : World} {b i : Nat} {C : Array Value} {v : Value} (h : RowI w b C) (hv : C[i]? = some v) : w.cell? ⟨b, i, none⟩ = some v := by
  unfold RowI at h; unfold World.cell?; simp only [h]; exact hv
theorem RowI.free {w : World} {b i : Nat} {C : Array Value} (h : RowI w b C) : w.frozen? ⟨b, i, none⟩ = false := by
  unfold RowI at h; unfold World.frozen?; simp only [h]; simp
theorem RowI.set {w : World} {b i : Nat} {C : Array Value} (h : RowI w b C) (v : Value) : RowI (w.setCell ⟨b, i, none⟩ v) b (C.setIfInBounds i v) := Joins.block_setCell h v
theorem RowI.lt {w : World} {b : Nat} {C : Array Value} (h : RowI w b C) : b < w.heap.size := (Array.getElem?_eq_some_iff.1 h).1
/-- A row of n cells whose first k are the ints of f. -/
def FilledI (w : World) (b n k : Nat) (f : Nat → Int) : Prop := ∃ C, RowI w b C ∧ C.size = n ∧ ∀ i, i < k → C[i]? = some (.int .i64 (f i))
theorem FilledI.step {w : World} {b n k : Nat} {f : Nat → Int} (h : FilledI w b n k f) (hk : k < n) : FilledI (w.setCell ⟨b, k, none⟩ (.int .i64 (f k))) b n (k + 1) f := by
  obtain ⟨C, hC, hn, hf⟩ := h
  refine ⟨C.setIfInBounds k (.int .i64 (f k)), hC.set _, by simpa using hn, fun i hi => ?_⟩
  by_cases e : i = k
  · subst e; simp [hn, hk]
  · rw [Array.getElem?_setIfInBounds_ne (by omega)]; exact hf i (by omega)
theorem FilledI.ints {w : World} {b n : Nat} {f : Nat → Int} (h : FilledI w b n n f) : IntsAt w.heap.size w (some ⟨b, 0, none⟩) n f := by
  obtain ⟨C, hC, _, hf⟩ := h
  intro i hi
  exact ⟨b, 0, rfl, hC.lt, by rw [Nat.zero_add]; exact hC.cell (hf i hi)⟩
theorem infoInt : (Try.prog.info? 3).map (fun i => (i.zero, i.size, i.bytes)) = some (some (.int .i64 0), 1, 8) := by kernel_rfl
set_option maxHeartbeats 1000000 in
/-- Two slices of the same ints are equal. -/
theorem eqInts (a b : Option Addr) (n ca cb : Nat) (f g : Nat → Int) (B : Nat) (w : World) (ha : IntsAt B w a n f) (hb : IntsAt B w b n g) (hn : n ≤ 9223372036854775807) (he : ∀ i, i < n → f i = g i) :
    Calls Try.prog 16 #[.slice a n ca, .slice b n cb] w fun e w' => e = .returned (.bool true) ∧ ∃ m, w' = w.drewN m := by
  have SA := Lib.hid ha
  have SB := Lib.hid hb
  have HE := Lib.hid he
  clear ha hb he
  go_enter Try.func16, Try.ntmps16
  go_wp2
  go_loopw [5] (fun i wr => ∃ k m : Nat, k ≤ n ∧ i = .int .i64 k ∧ wr = w.drewN m) (fun i _ => n - (intOf i).toNat)
  case atStart => exact ⟨0, 0, Nat.zero_le _, rfl, rfl⟩
  case round =>
    obtain ⟨k, m, hk, rfl, rfl⟩ := hrel
    by_cases hlt : k < n
    · obtain ⟨ba, oa, rfl, _, hca⟩ := SA.out k hlt
      obtain ⟨bb, ob, rfl, _, hcb⟩ := SB.out k hlt
      have hlt' : (k : Int) < (n : Int) := by omega
      rw [← HE.out k hlt] at hcb
      go_wp2
      go_quiet (fail)
      go_wp2
      go_roundw
      case rel => exact ⟨k + 1, m + nq, by omega, by go_num, rfl⟩
      case measure => simp [intOf]; omega
    · go_wp2
      go_ret
      exact ⟨rfl, m, rfl⟩
end Go.Proofs.Ytpekdmocgjjhnaa

/- Slices of ints and of texts that a law makes of its arguments; the laws' own helpers on them, said by ranges of blocks. -/
namespace Go.Proofs.Ytpekdmocgjjhnaa
open Go.RowKit
set_option maxRecDepth 100000
set_option linter.unusedVariables false

/-- The slice at a holds n ints f in a block of its own from lo to hi. -/
structure OwnI (a : Option Addr) (n : Nat) (f : Nat → Int) (lo hi : Nat) (w : World) : Prop where
  out : ∃ b C, a = some ⟨b, 0, none⟩ ∧ lo ≤ b ∧ b < hi ∧ w.heap[b]? = some (.cells C 3 (0, 0)) ∧ n ≤ C.size ∧ ∀ i, i < n → C[i]? = some (.int .i64 (f i))
theorem OwnI.below {a : Option Addr} {n : Nat} {f : Nat → Int} {lo hi : Nat} {w w' : World} (h : OwnI a n f lo hi w) (hb : Below w.heap.size w w') (hh : hi ≤ w.heap.size) : OwnI a n f lo hi w' := by
  obtain ⟨b, C, e, h0, h1, h2, r⟩ := h.out
  exact ⟨b, C, e, h0, h1, blk_below hb h2, r⟩
theorem OwnI.within {a : Option Addr} {n : Nat} {f : Nat → Int} {lo hi lo' hi' : Nat} {w w' : World} (h : OwnI a n f lo hi w) (k : Within lo' hi' w w') (hr : hi ≤ lo' ∨ hi' ≤ lo) (hh : hi ≤ w.heap.size) : OwnI a n f lo hi w' := by
  obtain ⟨b, C, e, h0, h1, h2, r⟩ := h.out
  exact ⟨b, C, e, h0, h1, k.blk (by omega) h2, r⟩
theorem OwnI.at_ {a : Option Addr} {n : Nat} {f : Nat → Int} {lo hi : Nat} {w : World} (h : OwnI a n f lo hi w) {H : Nat} (hh : hi ≤ H) : IntsAt H w a n f := by
  obtain ⟨b, C, e, h0, h1, h2, _, r⟩ := h.out
  intro i hi'
  exact ⟨b, 0, e, by omega, by rw [Nat.zero_add]; exact cellOf h2 (r i hi')⟩
theorem eqIntsR (a b : Option Addr) (n ca cb : Nat) (f : Nat → Int) (B : Nat) (w : World) (ha : IntsAt B w a n f) (hb : IntsAt B w b n f) (hn : n ≤ 1048576) :
    Calls Try.prog 16 #[.slice a n ca, .slice b n cb] w fun e w' => e = .returned (.bool true) ∧ Below w.heap.size w w' := by
  refine (eqInts a b n ca cb f f B w ha hb (by omega) (fun _ _ => rfl)).mono ?_
  rintro e w' ⟨rfl, m, rfl⟩
  exact ⟨rfl, below_drewN' (Below.refl _ _) m⟩
/-- The slice at a holds the n texts f in a block of its own from lo to hi. -/
structure OwnS (a : Option Addr) (n : Nat) (f : Nat → ByteArray) (lo hi : Nat) (w : World) : Prop where
  out : ∃ b C, a = some ⟨b, 0, none⟩ ∧ lo ≤ b ∧ b < hi ∧ w.heap[b]? = some (.cells C 9 (0, 0)) ∧ n ≤ C.size ∧ ∀ i, i < n → C[i]? = some (.string (f i))
theorem OwnS.below {a : Option Addr} {n : Nat} {f : Nat → ByteArray} {lo hi : Nat} {w w' : World} (h : OwnS a n f lo hi w) (hb : Below w.heap.size w w') (hh : hi ≤ w.heap.size) : OwnS a n f lo hi w' := by
  obtain ⟨b, C, e, h0, h1, h2, r⟩ := h.out
  exact ⟨b, C, e, h0, h1, blk_below hb h2, r⟩
theorem OwnS.within {a : Option Addr} {n : Nat} {f : Nat → ByteArray} {lo hi lo' hi' : Nat} {w w' : World} (h : OwnS a n f lo hi w) (k : Within lo' hi' w w') (hr : hi ≤ lo' ∨ hi' ≤ lo) (hh : hi ≤ w.heap.size) : OwnS a n f lo hi w' := by
  obtain ⟨b, C, e, h0, h1, h2, r⟩ := h.out
  exact ⟨b, C, e, h0, h1, k.blk (by omega) h2, r⟩
theorem OwnS.at_ {a : Option Addr} {n : Nat} {f : Nat → ByteArray} {lo hi : Nat} {w : World} (h : OwnS a n f lo hi w) {H : Nat} (hh : hi ≤ H) : StrsAt H w a n f := by
  obtain ⟨b, C, e, h0, h1, h2, _, r⟩ := h.out
  intro i hi'
  exact ⟨b, 0, e, by omega, by rw [Nat.zero_add]; exact cellOf h2 (r i hi')⟩
theorem toStrsR (a : Option Addr) (n cap : Nat) (f : Nat → ByteArray) (B : Nat) (w : World) (hs : StrsAt B w a n f) (hB : B ≤ w.heap.size) (hn : n ≤ 1048576) :
    Calls Try.prog 14 #[.slice a n cap] w fun e w' => ∃ x, e = .returned (.slice x n n) ∧ OwnS x n f w.heap.size w'.heap.size w' ∧ Below w.heap.size w w' := by
  refine (toStrs a n cap f w (hs.mono hB) hn).mono ?_
  rintro e w' ⟨rfl, ⟨C, hC, hn', r⟩, hb⟩
  exact ⟨_, rfl, ⟨_, C, rfl, Nat.le_refl _, hC.lt, hC, by omega, r⟩, hb⟩
theorem eqStrsR (a b : Option Addr) (n ca cb : Nat) (f : Nat → ByteArray) (B : Nat) (w : World) (ha : StrsAt B w a n f) (hb : StrsAt B w b n f) (hn : n ≤ 1048576) :
    Calls Try.prog 17 #[.slice a n ca, .slice b n cb] w fun e w' => e = .returned (.bool true) ∧ Below w.heap.size w w' := by
  refine (eqStrs a b n ca cb f f B w ha hb (by omega) (fun _ _ => rfl)).mono ?_
  rintro e w' ⟨rfl, m, rfl⟩
  exact ⟨rfl, below_drewN' (Below.refl _ _) m⟩
theorem markStrsR (a : Option Addr) (n c k : Nat) (f : Nat → ByteArray) (lo hi : Nat) (w : World) (h : OwnS a n f lo hi w) (hn : n ≤ 1048576) (h1 : 1 ≤ k) (hk : k + n ≤ 9000000) :
    Calls Try.prog 18 #[.slice a n c, .int .i64 k] w fun e w' => e = .returned (.int .i64 ((k : Int) + (n : Int))) ∧ Within lo hi w w' := by
  obtain ⟨b, C, rfl, h0, hb1, hC, hnC, r⟩ := h.out
  have hl : ((List.range n).map f).length = n := by simp
  have ho : OwnTxs w (some ⟨b, 0, none⟩) ((List.range n).map f) [b] := by
    refine .inr ⟨b, C, rfl, rfl, hC, by rw [hl]; exact hnC, fun i hi => ?_⟩
    rw [hl] at hi
    rw [r i hi]; unfold txtS; simp [List.getD_eq_getElem?_getD, hi]
  have hm := markTxs ((List.range n).map f) (some ⟨b, 0, none⟩) c k [b] w ho (by omega) h1 (by omega)
  rw [hl] at hm
  refine hm.mono ?_
  rintro e w' ⟨rfl, _, t⟩
  exact ⟨rfl, t.within (fun g hg => by obtain rfl := List.mem_singleton.1 hg; exact ⟨h0, hb1⟩)⟩
end Go.Proofs.Ytpekdmocgjjhnaa

/- Three-valued logic on ints: the program's and the reference's functions. -/
namespace Go.Proofs.Ytpekdmocgjjhnaa
set_option maxRecDepth 100000
open Go.RowKit
set_option linter.unusedVariables false

/-- The three values: 0, 1 and missing. -/
def vL (x : Int) : Int := if x = 0 then 0 else if x = 1 then 1 else 2
def nL (x : Int) : Int := if x = 0 then 1 else if x = 1 then 0 else 2
def aL (x y : Int) : Int := if x = 0 ∨ y = 0 then 0 else if x = 1 ∧ y = 1 then 1 else 2
def oL (x y : Int) : Int := if x = 1 ∨ y = 1 then 1 else if x = 0 ∧ y = 0 then 0 else 2
def xL (x y : Int) : Int := if (x = 0 ∨ x = 1) ∧ (y = 0 ∨ y = 1) then (if x = y then 0 else 1) else 2
def L3 (x : Int) : Prop := x = 0 ∨ x = 1 ∨ x = 2
theorem L3.in {x : Int} (h : L3 x) : -9223372036854775808 ≤ x ∧ x ≤ 9223372036854775807 := by unfold L3 at h; omega
end Go.Proofs.Ytpekdmocgjjhnaa

/- Vectors of items that a call builds; LogicalVector of the program. -/
namespace Go.Proofs.Ytpekdmocgjjhnaa
open Go.RowKit
set_option maxRecDepth 100000
set_option linter.unusedVariables false

/-- A vector of items alone. -/
def vecOf (k : Int) (l : List It) : Vec := .mk k l [] [] [] [] 0 0
def itF (g : Nat → It) (n : Nat) : List It := (List.range n).map g
theorem small_vecOf {k : Int} {l : List It} (h : l.length ≤ 1048576) (ht : ∀ x ∈ l, x.t.size ≤ 1048576) : Small 1 (vecOf k l) := by
  show Small 1 (.mk k l [] [] [] [] 0 0)
  unfold Small
  exact ⟨h, Nat.zero_le _, Nat.zero_le _, Nat.zero_le _, Nat.zero_le _, ht, (fun _ h => by cases h), (fun _ h => by cases h), (fun _ h => by cases h), (fun _ h => by cases h)⟩
theorem small_noV : Small 1 noV := by
  show Small 1 (.mk 0 [] [] [] [] [] 0 0)
  unfold Small
  exact ⟨Nat.zero_le _, Nat.zero_le _, Nat.zero_le _, Nat.zero_le _, Nat.zero_le _, (fun _ h => by cases h), (fun _ h => by cases h), (fun _ h => by cases h), (fun _ h => by cases h), (fun _ h => by cases h)⟩
theorem fits_vecOf {k : Int} {l : List It} (hk : -9223372036854775808 ≤ k ∧ k ≤ 9223372036854775807) (h : l.length ≤ 1048576) (ht : ∀ x ∈ l, InB x) : Fits 1 (vecOf k l) := by
  show Fits 1 (.mk k l [] [] [] [] 0 0)
  unfold Fits
  refine ⟨hk, ⟨by decide, by decide⟩, ⟨by decide, by decide⟩, by unfold maxLen; omega, Nat.zero_le _, Nat.zero_le _, Nat.zero_le _, Nat.zero_le _, fun x hx => ht x hx, (fun _ h => by cases h), (fun _ h => by cases h), (fun _ h => by cases h), (fun _ h => by cases h)⟩
theorem fits_noV : Fits 1 noV := by
  show Fits 1 (.mk 0 [] [] [] [] [] 0 0)
  unfold Fits
  exact ⟨⟨by decide, by decide⟩, ⟨by decide, by decide⟩, ⟨by decide, by decide⟩, Nat.zero_le _, Nat.zero_le _, Nat.zero_le _, Nat.zero_le _, Nat.zero_le _, (fun _ h => by cases h), (fun _ h => by cases h), (fun _ h => by cases h), (fun _ h => by cases h), (fun _ h => by cases h)⟩
/-- What a loop that appends items keeps: the result's block, the vector's block behind it, the items so far. -/
structure AppL (w wr : World) (kind : Int) (l : List It) (sa : Option Addr) (sn sc : Nat) : Prop where
  res : wr.heap[w.heap.size]? = some (.cells #[.int .i64 0, .slice none 0 0, .slice none 0 0, .slice none 0 0, .slice none 0 0, .slice none 0 0, .int .i64 0, .int .i64 0] 31 (0, 0))
  vec : wr.heap[w.heap.size + 1]? = some (.cells #[.int .i64 kind, .slice sa sn sc, .slice none 0 0, .slice none 0 0, .slice none 0 0, .slice none 0 0, .int .i64 0, .int .i64 0] 31 (0, 0))
  row : wr.ownsRow (w.heap.size + 2) 63 3 (.slice sa sn sc) l.length (itCells l)
  below : Below w.heap.size w wr
theorem AppL.big {w wr : World} {kind : Int} {l : List It} {sa : Option Addr} {sn sc : Nat} (h : AppL w wr kind l sa sn sc) : w.heap.size + 1 < wr.heap.size := (Array.getElem?_eq_some_iff.1 h.vec).1
theorem AppL.keep {w wr w1 : World} {kind : Int} {l : List It} {sa : Option Addr} {sn sc : Nat} (h : AppL w wr kind l sa sn sc) (hb : Below wr.heap.size wr w1) : AppL w w1 kind l sa sn sc :=
  ⟨blk_below hb h.res, blk_below hb h.vec, ownsRow_below h.row hb, below_then h.below hb⟩
theorem AppL.far {w wr : World} {kind : Int} {l : List It} {sa : Option Addr} {sn sc : Nat} (h : AppL w wr kind l sa sn sc) {q : Nat × TypeId × Array Value} (hq : q ∈ [(w.heap.size, 31, #[.int .i64 0, .slice none 0 0, .slice none 0 0, .slice none 0 0, .slice none 0 0, .slice none 0 0, .int .i64 0, .int .i64 0]), (w.heap.size + 1, 31, #[.int .i64 kind, .slice sa sn sc, .slice none 0 0, .slice none 0 0, .slice none 0 0, .slice none 0 0, .int .i64 0, .int .i64 0])]) : ∀ k, (Value.slice sa sn sc).ownBlock = some k → q.1 ≠ k := by
  intro k hk e
  have h1 := (h.row.lt k hk).1
  rcases List.mem_cons.1 hq with rfl | hq
  · simp only at e; omega
  · obtain rfl := List.mem_singleton.1 hq
    simp only at e; omega
theorem AppL.start (w : World) (kind : Int) : AppL w ((w.alloc (.cells #[.int .i64 0, .slice none 0 0, .slice none 0 0, .slice none 0 0, .slice none 0 0, .slice none 0 0, .int .i64 0, .int .i64 0] 31)).alloc (.cells #[.int .i64 kind, .slice none 0 0, .slice none 0 0, .slice none 0 0, .slice none 0 0, .slice none 0 0, .int .i64 0, .int .i64 0] 31)) kind [] none 0 0 := by
  have h0 : (w.alloc (.cells #[.int .i64 0, .slice none 0 0, .slice none 0 0, .slice none 0 0, .slice none 0 0, .slice none 0 0, .int .i64 0, .int .i64 0] 31)).heap.size = w.heap.size + 1 := by simp
  refine ⟨blk_old (blk_new w _ rfl), ?_, ⟨rfl, .inl ⟨rfl, rfl⟩⟩, (below1 w _).alloc (by simp) _⟩
  have := blk_new (w.alloc (.cells #[.int .i64 0, .slice none 0 0, .slice none 0 0, .slice none 0 0, .slice none 0 0, .slice none 0 0, .int .i64 0, .int .i64 0] 31)) (.cells #[.int .i64 kind, .slice none 0 0, .slice none 0 0, .slice none 0 0, .slice none 0 0, .slice none 0 0, .int .i64 0, .int .i64 0] 31) rfl
  rwa [h0] at this
/-- The item of a logical value. -/
def logI (x : Int) : It := if x = 0 then ⟨0, 1, ⟨#[]⟩⟩ else if x = 1 then ⟨1, 1, ⟨#[]⟩⟩ else noI
end Go.Proofs.Ytpekdmocgjjhnaa

/- Functions that return a vector and a text. -/
namespace Go.Proofs.Ytpekdmocgjjhnaa
open Go.RowKit
set_option maxRecDepth 100000
set_option linter.unusedVariables false

/-- "result is too large" -/
def bigB : ByteArray := ⟨#[114, 101, 115, 117, 108, 116, 32, 105, 115, 32, 116, 111, 111, 32, 108, 97, 114, 103, 101]⟩
section
variable {P : Program} {ops : Array Oper} {Q : Exit → Act → World → Prop} {S : World → Prop}
variable {r : List (Nat × Bool)} {a : Act} {e : List (Nat × Value)} {w : World} {i d : Nat} {g : Option (Nat × Bool)} {v : Value}
end
end Go.Proofs.Ytpekdmocgjjhnaa

/- A list of texts copied by append: what lies in the new block. -/
namespace Go.Proofs.Ytpekdmocgjjhnaa
open Go.RowKit
set_option maxRecDepth 100000
set_option linter.unusedVariables false

/-- A row of the call's own that holds the texts of l. -/
theorem own_of_row {w : World} {B : Nat} {v : Value} {l : List ByteArray} (hpos : 0 < l.length) (h : w.ownsRow B 9 1 v l.length (l.map Value.string)) :
    ∃ g c, v = .slice (some ⟨g, 0, none⟩) l.length c ∧ OwnTxs w (some ⟨g, 0, none⟩) l [g] ∧ B ≤ g ∧ g < w.heap.size ∧ l.length ≤ c := by
  obtain ⟨_, h⟩ := h
  rcases h with ⟨_, h0⟩ | ⟨g, cap, cur, rfl, hB, hg, hc, _, hs, ht⟩
  · omega
  · refine ⟨g, cap, rfl, .inr ⟨g, cur, rfl, rfl, hg, by omega, fun i hi => ?_⟩, hB, (Array.getElem?_eq_some_iff.1 hg).1, hc⟩
    have h1 : (cur.toList.take (l.length * 1))[i]? = (l.map Value.string)[i]? := by rw [ht]
    rw [List.getElem?_take_of_lt (by omega)] at h1
    rw [← Array.getElem?_toList, h1]
    unfold txtS
    simp [List.getD_eq_getElem?_getD, hi]
theorem news_cells {w : World} {lo hi b off : Nat} {l : List ByteArray} (h : TextsAt lo hi w (some ⟨b, off, none⟩) l) : ∀ j u, (l.map Value.string)[j]? = some u → w.cell? ((⟨b, off, none⟩ : Addr).add j) = some u := by
  intro j u hj
  rw [List.getElem?_map] at hj
  obtain ⟨s, hs, rfl⟩ := Option.map_eq_some_iff.1 hj
  obtain ⟨b', off', e, _, _, c⟩ := h j s hs
  simp only [Option.some.injEq, Addr.mk.injEq, and_true] at e
  obtain ⟨rfl, rfl⟩ := e
  have ea : (⟨b, off, none⟩ : Addr).add j = ⟨b, off + j, none⟩ := by
    unfold Addr.add; split
    · rename_i h; subst h; rfl
    · rfl
  rw [ea]; exact c
theorem texts_some {w : World} {lo hi : Nat} {a : Option Addr} {l : List ByteArray} (h : TextsAt lo hi w a l) (hpos : 0 < l.length) : ∃ b off, a = some ⟨b, off, none⟩ := by
  obtain ⟨b, off, e, _⟩ := h 0 _ (List.getElem?_eq_getElem hpos)
  exact ⟨b, off, e⟩
end Go.Proofs.Ytpekdmocgjjhnaa

/- Vectors of items alone as results of laws: they are small, they fit, and their marks are few; ints that come in, with their bounds. -/
namespace Go.Proofs.Ytpekdmocgjjhnaa
open Go.RowKit
set_option maxRecDepth 100000
set_option linter.unusedVariables false

end Go.Proofs.Ytpekdmocgjjhnaa

/- What a law needs of a result that is a vector of items alone, or the zero value. -/
namespace Go.Proofs.Ytpekdmocgjjhnaa
open Go.RowKit
set_option maxRecDepth 100000
set_option linter.unusedVariables false

/-- The zero value, or a vector of items alone that fit. -/
def PlainV (V : Vec) : Prop := V = noV ∨ ∃ k l, V = vecOf k l ∧ (-9223372036854775808 ≤ k ∧ k ≤ 9223372036854775807) ∧ l.length ≤ 40 ∧ ∀ x ∈ l, InB x ∧ x.t.size ≤ 1048576
theorem PlainV.small {V : Vec} (h : PlainV V) : Small 1 V := by
  rcases h with rfl | ⟨k, l, rfl, hk, hl, hx⟩
  · exact small_noV
  · exact small_vecOf (by omega) (fun x h => (hx x h).2)
theorem PlainV.fits {V : Vec} (h : PlainV V) : Fits 1 V := by
  rcases h with rfl | ⟨k, l, rfl, hk, hl, hx⟩
  · exact fits_noV
  · exact fits_vecOf hk (by omega) (fun x h => (hx x h).1)
end Go.Proofs.Ytpekdmocgjjhnaa

/- Vectors with names that a call builds; texts copied by append, whatever their number. -/
namespace Go.Proofs.Ytpekdmocgjjhnaa
open Go.RowKit
set_option maxRecDepth 100000
set_option linter.unusedVariables false

/-- A vector of items and names. -/
def mkN (k : Int) (l : List It) (names : List ByteArray) : Vec := .mk k l [] names [] [] 0 0
/-- An append of nothing onto nothing. -/
theorem run_app0 {w : World} {dst : Value} {ty : TypeId} (hd : dst = .slice none 0 0 ∨ ∃ g, dst = .slice (some ⟨g, 0, none⟩) 0 0) (ad : Option Addr) (c : Nat) :
    (Builtin.append_ #[24, 24] ty #[dst, .slice ad 0 c]).run Try.prog w = .ok dst w := by
  obtain ⟨i0, hi0, hz0, hz1, hz2⟩ := info_parts infoStr
  rcases ad with _ | ad <;> rcases hd with rfl | ⟨g, rfl⟩ <;> simp [Builtin.append_, run_underlying Try.underlying24, sizeOf, typeInfo, hi0, Builtin.lenOf, Builtin.firstCells, loadCells, loadCellsFrom, storeCells]
theorem wpList_app0 {w : World} {ops : Array Oper} {rest : List Oper} {o : Oper} {a : Act} {Q : Exit → Act → World → Prop} (hgd : o.guard = none) (s x : Operand)
    (ho : o.op = .call { callee := .builtin .append, args := #[s, x], argTypes := #[24, 24] }) (dst : Value) (hs : a.eval s = dst) (hd : dst = .slice none 0 0 ∨ ∃ g, dst = .slice (some ⟨g, 0, none⟩) 0 0) (ad : Option Addr) (c : Nat) (hx : a.eval x = .slice ad 0 c)
    (h : wpList Try.prog ops Q rest (a.put o.dst dst) w) : wpList Try.prog ops Q (o :: rest) a w := by
  refine wpList_plain hgd fun K hK => ?_
  unfold Oper.wp
  simp [execOp, ho, resolve, invoke, builtin, hs, hx, run_app0 hd ad c, Result.andThen]
  exact hK _ _ h
/-- What a copy of texts is. -/
def CopyTx (base : Nat) (l : List ByteArray) (v : Value) (w : World) : Prop := ∃ sa sc F, v = .slice sa l.length sc ∧ OwnTxs w sa l F ∧ F.Nodup ∧ (∀ b ∈ F, base ≤ b ∧ b < w.heap.size) ∧ l.length ≤ sc
/-- What a loop that appends items to a vector with names keeps. -/
structure AppN (w wr : World) (r b : Nat) (kind : Int) (l : List It) (sa : Option Addr) (sn sc : Nat) (names : List ByteArray) (na : Option Addr) (nc : Nat) (F : List Nat) : Prop where
  res : wr.heap[r]? = some (.cells #[.int .i64 0, .slice none 0 0, .slice none 0 0, .slice none 0 0, .slice none 0 0, .slice none 0 0, .int .i64 0, .int .i64 0] 31 (0, 0))
  vec : wr.heap[b]? = some (.cells #[.int .i64 kind, .slice sa sn sc, .slice none 0 0, .slice na names.length nc, .slice none 0 0, .slice none 0 0, .int .i64 0, .int .i64 0] 31 (0, 0))
  row : wr.ownsRow (b + 1) 63 3 (.slice sa sn sc) l.length (itCells l)
  nms : OwnTxs wr na names F
  cap : names.length ≤ nc
  nd : F.Nodup
  rng : ∀ g ∈ F, w.heap.size ≤ g ∧ g < b ∧ g ≠ r
  below : Below w.heap.size w wr
  o1 : w.heap.size ≤ r
  o2 : r < b
theorem AppN.big {w wr : World} {r b : Nat} {kind : Int} {l : List It} {sa : Option Addr} {sn sc : Nat} {names : List ByteArray} {na : Option Addr} {nc : Nat} {F : List Nat} (h : AppN w wr r b kind l sa sn sc names na nc F) : b < wr.heap.size := (Array.getElem?_eq_some_iff.1 h.vec).1
theorem AppN.keep {w wr w1 : World} {r b : Nat} {kind : Int} {l : List It} {sa : Option Addr} {sn sc : Nat} {names : List ByteArray} {na : Option Addr} {nc : Nat} {F : List Nat} (h : AppN w wr r b kind l sa sn sc names na nc F) (hb : Below wr.heap.size wr w1) : AppN w w1 r b kind l sa sn sc names na nc F :=
  ⟨blk_below hb h.res, blk_below hb h.vec, ownsRow_below h.row hb, h.nms.kept (fun g hg => hb.block g (by have := h.rng g hg; have := h.big; omega)), h.cap, h.nd, h.rng, below_then h.below hb, h.o1, h.o2⟩
theorem AppN.far {w wr : World} {r b : Nat} {kind : Int} {l : List It} {sa : Option Addr} {sn sc : Nat} {names : List ByteArray} {na : Option Addr} {nc : Nat} {F : List Nat} (h : AppN w wr r b kind l sa sn sc names na nc F) {C : Array Value} {q : Nat × TypeId × Array Value} (hq : q ∈ (wr.heap.size, 63, C) :: [(r, 31, #[.int .i64 0, .slice none 0 0, .slice none 0 0, .slice none 0 0, .slice none 0 0, .slice none 0 0, .int .i64 0, .int .i64 0]), (b, 31, #[.int .i64 kind, .slice sa sn sc, .slice none 0 0, .slice na names.length nc, .slice none 0 0, .slice none 0 0, .int .i64 0, .int .i64 0])]) : ∀ k, (Value.slice sa sn sc).ownBlock = some k → q.1 ≠ k := by
  intro k hk e
  have h1 := h.row.lt k hk
  have h2 := h.o2
  rcases List.mem_cons.1 hq with rfl | hq
  · simp only at e; omega
  rcases List.mem_cons.1 hq with rfl | hq
  · simp only at e; omega
  · obtain rfl := List.mem_singleton.1 hq
    simp only at e; omega
/-- The vector itself, where the function ends. -/
theorem AppN.own {w wr : World} {r b : Nat} {kind : Int} {l : List It} {sa : Option Addr} {sn sc : Nat} {names : List ByteArray} {na : Option Addr} {nc : Nat} {F : List Nat} (h : AppN w wr r b kind l sa sn sc names na nc F) : ∃ G, OwnVec wr 1 (mkN kind l names) (.agg #[.int .i64 kind, .slice sa sn sc, .slice none 0 0, .slice na names.length nc, .slice none 0 0, .slice none 0 0, .int .i64 0, .int .i64 0]) G ∧ G.Nodup ∧ ∀ g ∈ G, w.heap.size ≤ g ∧ g < wr.heap.size ∧ g ≠ r := by
  obtain ⟨a, c, Fi, e, ho, hn, hr, hc⟩ := own_of_its h.row
  obtain ⟨rfl, rfl, rfl⟩ : sa = a ∧ sn = l.length ∧ sc = c := by simpa using e
  refine ⟨Fi ++ F, ?_, ?_, ?_⟩
  · show OwnVec wr 1 (.mk kind l [] names [] [] 0 0) _ _
    unfold OwnVec
    exact ⟨sa, sc, none, 0, na, nc, none, 0, none, 0, Fi, [], F, [], [], rfl, by simp, ⟨hc, Nat.le_refl _, h.cap, Nat.le_refl _, Nat.le_refl _⟩, ho, h.nms, .inl ⟨rfl, rfl⟩, .inl ⟨rfl, rfl⟩, .inl ⟨rfl, rfl⟩⟩
  · rw [List.nodup_append]
    exact ⟨hn, h.nd, fun x hx y hy e => by have := hr x hx; have := h.rng y hy; omega⟩
  · intro g hg
    have h1 := h.o1; have h2 := h.o2; have h3 := h.big
    rcases List.mem_append.1 hg with hg | hg
    · have := hr g hg; omega
    · have := h.rng g hg; omega
theorem small_mkN {k : Int} {l : List It} {names : List ByteArray} (h : l.length ≤ 1048576) (ht : ∀ x ∈ l, x.t.size ≤ 1048576) (hn : names.length ≤ 1048576) (hs : ∀ s ∈ names, s.size ≤ 1048576) : Small 1 (mkN k l names) := by
  show Small 1 (.mk k l [] names [] [] 0 0)
  unfold Small
  exact ⟨h, Nat.zero_le _, hn, Nat.zero_le _, Nat.zero_le _, ht, hs, (fun _ h => by cases h), (fun _ h => by cases h), (fun _ h => by cases h)⟩
theorem fits_mkN {k : Int} {l : List It} {names : List ByteArray} (hk : -9223372036854775808 ≤ k ∧ k ≤ 9223372036854775807) (h : l.length ≤ 1048576) (ht : ∀ x ∈ l, InB x) (hn : names.length ≤ 1048576) (hs : ∀ s ∈ names, s.size ≤ 1048576) : Fits 1 (mkN k l names) := by
  show Fits 1 (.mk k l [] names [] [] 0 0)
  unfold Fits
  refine ⟨hk, ⟨by decide, by decide⟩, ⟨by decide, by decide⟩, by unfold maxLen; omega, Nat.zero_le _, by unfold maxLen; omega, Nat.zero_le _, Nat.zero_le _, fun x hx => ht x hx, fun s hx => by have := hs s hx; unfold maxLen; omega, (fun _ h => by cases h), (fun _ h => by cases h), (fun _ h => by cases h)⟩
end Go.Proofs.Ytpekdmocgjjhnaa

/- The end of an appending region, with all that it leaves alone. -/
namespace Go.Proofs.Ytpekdmocgjjhnaa
open Go.RowKit
set_option maxRecDepth 100000
set_option linter.unusedVariables false

end Go.Proofs.Ytpekdmocgjjhnaa

/- Logical values of vectors. -/
namespace Go.Proofs.Ytpekdmocgjjhnaa
open Go.RowKit
set_option maxRecDepth 100000
set_option linter.unusedVariables false

/-- "invalid vector", "non-logical argument" -/
def badB : ByteArray := ⟨#[105, 110, 118, 97, 108, 105, 100, 32, 118, 101, 99, 116, 111, 114]⟩
def nonLogB : ByteArray := ⟨#[110, 111, 110, 45, 108, 111, 103, 105, 99, 97, 108, 32, 97, 114, 103, 117, 109, 101, 110, 116]⟩
/-- Does a vector count as numbers? -/
def Counts (v : Vec) : Prop := match v with | .mk k _ _ _ _ levels _ _ => k ≤ 2 ∧ levels.length = 0
def truthI (x : It) : Int := if x.d = 0 then 2 else if x.n = 0 then 0 else 1
/-- An element of a vector that counts as numbers. -/
structure NumIt (x : It) : Prop where
  t : x.t = ⟨#[]⟩
  n0 : -999999999 ≤ x.n
  n1 : x.n ≤ 999999999
  d0 : 0 ≤ x.d
  d1 : x.d ≤ 999999999
  z : x.d = 0 → x = noI
theorem numIt_of {k : Int} {x : It} (h : ItOk k x) (hk : k ≤ 2) : NumIt x := by
  rcases h with rfl | ⟨_, h1, h2, h3, h4⟩ | ⟨_, h1⟩ | ⟨h1, _⟩
  · exact ⟨rfl, by decide, by decide, by decide, by decide, fun _ => rfl⟩
  · exact ⟨empty_of_size h4, by omega, by omega, by omega, by omega, fun h => by omega⟩
  · obtain ⟨g1, g2, g3, g4, g5, _⟩ := isN_iff.1 h1
    exact ⟨g1, g4, g5, by omega, g3, fun h => by omega⟩
  · omega
theorem implTruth (x : It) (w : World) (h : NumIt x) :
    Calls Try.prog 105 #[.agg #[.int .i64 x.n, .int .i64 x.d, .string x.t]] w fun e w' => e = .returned (.int .i64 (truthI x)) ∧ Below w.heap.size w w' := by
  obtain ⟨n, d, t⟩ := x
  obtain rfl : t = ⟨#[]⟩ := h.t
  by_cases hd : d = 0
  · obtain ⟨rfl, rfl⟩ : n = 0 ∧ d = 0 := by have := h.z hd; exact ⟨congrArg It.n this, hd⟩
    clear h hd
    go_enter Try.func105, Try.ntmps105
    go_wp2
    go_ret
    exact ⟨rfl, below1 _ _⟩
  · have X := Lib.hid (show truthI ⟨n, d, ⟨#[]⟩⟩ = if n = 0 then 0 else 1 by unfold truthI; rw [if_neg hd])
    have hb : (d == 0) = false := by simp [hd]
    clear h
    by_cases hn : n = 0
    · subst hn
      have Y := Lib.hid (show truthI ⟨0, d, ⟨#[]⟩⟩ = 0 by rw [X.out]; rfl)
      go_enter Try.func105, Try.ntmps105
      go_wp2
      go_ret
      exact ⟨ret_i64S Y.out.symm, below1 _ _⟩
    · have Y := Lib.hid (show truthI ⟨n, d, ⟨#[]⟩⟩ = 1 by rw [X.out, if_neg hn])
      have hb2 : (n == 0) = false := by simp [hn]
      go_enter Try.func105, Try.ntmps105
      go_wp2
      go_ret
      exact ⟨ret_i64S Y.out.symm, below1 _ _⟩
end Go.Proofs.Ytpekdmocgjjhnaa

/- How the reference makes a number. -/
namespace Go.Proofs.Ytpekdmocgjjhnaa
set_option maxRecDepth 100000
open Go.RowKit
set_option linter.unusedVariables false

end Go.Proofs.Ytpekdmocgjjhnaa

/- How the program makes a number. -/
namespace Go.Proofs.Ytpekdmocgjjhnaa
set_option maxRecDepth 100000
open Go.RowKit
set_option linter.unusedVariables false

set_option maxHeartbeats 1000000 in
theorem implMake (n d : Int) (w : World) (h : -9223372036854775808 ≤ n ∧ n ≤ 9223372036854775807) (h' : -9223372036854775808 ≤ d ∧ d ≤ 9223372036854775807) :
    Calls Try.prog 113 #[.int .i64 n, .int .i64 d] w fun e w' => e = .returned (.agg #[.int .i64 (mkI n d).n, .int .i64 (mkI n d).d, .string ⟨#[]⟩]) ∧ Below w.heap.size w w' := by
  by_cases hd : d = 0
  · subst hd
    have X := Lib.hid (mkI_no (n := n) (d := 0) (by unfold okR; simp))
    go_enter Try.func113, Try.ntmps113
    go_wp2
    rw [X.out]
    exact bodyPost_ret (v := .agg #[.int .i64 0, .int .i64 0, .string ⟨#[]⟩]) (by simp [results, Try.results113, go_sem]) rfl ⟨rfl, (Below.refl _ _).alloc (Nat.le_refl _) _⟩
  · by_cases hn : n < -4000000000000000000 ∨ 4000000000000000000 < n
    · have X := Lib.hid (mkI_no (n := n) (d := d) (by unfold okR; omega))
      have H := Lib.hid hn
      have D := Lib.hid hd
      have d0 : (d == 0) = false := by simp [hd]
      clear hn hd
      go_enter Try.func113, Try.ntmps113
      go_wp2_with fail
      refine (isOpNo n _ H.out).mono ?_
      rintro e w' ⟨rfl, rfl⟩
      go_wp2
      rw [X.out]
      exact bodyPost_ret (v := .agg #[.int .i64 0, .int .i64 0, .string ⟨#[]⟩]) (by simp [results, Try.results113, go_sem]) rfl ⟨rfl, (Below.refl _ _).alloc (Nat.le_refl _) _⟩
    · by_cases hd2 : d < -4000000000000000000 ∨ 4000000000000000000 < d
      · have X := Lib.hid (mkI_no (n := n) (d := d) (by unfold okR; omega))
        have H := Lib.hid hd2
        have N := Lib.hid hn
        have d0 : (d == 0) = false := by simp [hd]
        clear hn hd hd2
        go_enter Try.func113, Try.ntmps113
        go_wp2_with fail
        refine (isOpYes n _ (by have := N.out; omega) (by have := N.out; omega)).mono ?_
        rintro e w' ⟨rfl, rfl⟩
        go_wp2_with fail
        refine (isOpNo d _ H.out).mono ?_
        rintro e w' ⟨rfl, rfl⟩
        go_wp2
        rw [X.out]
        exact bodyPost_ret (v := .agg #[.int .i64 0, .int .i64 0, .string ⟨#[]⟩]) (by simp [results, Try.results113, go_sem]) rfl ⟨rfl, (Below.refl _ _).alloc (Nat.le_refl _) _⟩
      · have a1 : -4000000000000000000 ≤ n := by omega
        have a2 : n ≤ 4000000000000000000 := by omega
        have b1 : -4000000000000000000 ≤ d := by omega
        have b2 : d ≤ 4000000000000000000 := by omega
        have d0 : (d == 0) = false := by simp [hd]
        obtain ⟨g, p, q, hg, g0, g1, hp, hq, ⟨k1, k2⟩, ⟨k3, k4⟩, hyes, hno, hq1, _⟩ := make_facts (n := n) (d := d) (by unfold okR; omega)
        have Y := Lib.hid hyes
        have Z := Lib.hid hno
        have C := Lib.hid (hg ▸ implGcd n d)
        have D := Lib.hid hd
        clear hn hd hd2 hg hyes hno h h'
        by_cases hs : d < 0
        · rw [if_pos hs, Int.tdiv_neg] at hp hq
          have P := Lib.hid hp
          have Q := Lib.hid hq
          clear hp hq
          go_enter Try.func113, Try.ntmps113
          go_wp2_with fail
          refine (isOpYes n _ a1 a2).mono ?_
          rintro e w' ⟨rfl, rfl⟩
          go_wp2_with fail
          refine (isOpYes d _ b1 b2).mono ?_
          rintro e w' ⟨rfl, rfl⟩
          go_wp2_with fail
          refine (C.out _ a1 a2 b1 b2).mono ?_
          rintro e w' ⟨rfl, m, rfl⟩
          go_wp2
          go_region
          rw [P.out, Q.out]
          cases hb : isN ⟨p, q, ⟨#[]⟩⟩
          · have HB := Lib.hid hb
            have M := Lib.hid (Z.out hb)
            clear hb
            go_wp2_with fail
            refine (implNumNo p q ⟨#[]⟩ _ (by decide) HB.out).mono ?_
            rintro e w1 ⟨rfl, hb1⟩
            obtain ⟨hc, hf⟩ := bcell hb1
            have B1 := Lib.hid hb1
            have B2 := Lib.hid ((below_drewN' ((Below.refl w.heap.size w).alloc (Nat.le_refl _) _) _).alloc (by simp) _ |>.trans (hb1.mono (by simp; omega)))
            clear hb1
            go_wp2
            rw [M.out]
            exact item_ret rfl rfl rfl (blk_below B1.out (blk_old (blk_drewN (blk_new w _ rfl)))) ⟨rfl, below_three (B2.out) (Nat.le_refl _) _ _ _⟩
          · have HB := Lib.hid hb
            have M := Lib.hid (Y.out hb)
            clear hb
            go_wp2_with fail
            refine (implNumYes p q ⟨#[]⟩ _ (by decide) HB.out).mono ?_
            rintro e w1 ⟨rfl, hb1⟩
            obtain ⟨hc, hf⟩ := bcell hb1
            have B1 := Lib.hid hb1
            have B2 := Lib.hid ((below_drewN' ((Below.refl w.heap.size w).alloc (Nat.le_refl _) _) _).alloc (by simp) _ |>.trans (hb1.mono (by simp; omega)))
            clear hb1
            go_wp2
            rw [M.out]
            exact item_ret rfl rfl rfl (blk_below B1.out (blk_old (blk_drewN (blk_new w _ rfl)))) ⟨rfl, below_three (B2.out) (Nat.le_refl _) _ _ _⟩
        · rw [if_neg hs] at hp hq
          have P := Lib.hid hp
          have Q := Lib.hid hq
          clear hp hq
          go_enter Try.func113, Try.ntmps113
          go_wp2_with fail
          refine (isOpYes n _ a1 a2).mono ?_
          rintro e w' ⟨rfl, rfl⟩
          go_wp2_with fail
          refine (isOpYes d _ b1 b2).mono ?_
          rintro e w' ⟨rfl, rfl⟩
          go_wp2_with fail
          refine (C.out _ a1 a2 b1 b2).mono ?_
          rintro e w' ⟨rfl, m, rfl⟩
          go_wp2
          go_region
          rw [P.out, Q.out]
          cases hb : isN ⟨p, q, ⟨#[]⟩⟩
          · have HB := Lib.hid hb
            have M := Lib.hid (Z.out hb)
            clear hb
            go_wp2_with fail
            refine (implNumNo p q ⟨#[]⟩ _ (by decide) HB.out).mono ?_
            rintro e w1 ⟨rfl, hb1⟩
            obtain ⟨hc, hf⟩ := bcell hb1
            have B1 := Lib.hid hb1
            have B2 := Lib.hid ((below_drewN' ((Below.refl w.heap.size w).alloc (Nat.le_refl _) _) _).alloc (by simp) _ |>.trans (hb1.mono (by simp; omega)))
            clear hb1
            go_wp2
            rw [M.out]
            exact item_ret rfl rfl rfl (blk_below B1.out (blk_old (blk_drewN (blk_new w _ rfl)))) ⟨rfl, below_three (B2.out) (Nat.le_refl _) _ _ _⟩
          · have HB := Lib.hid hb
            have M := Lib.hid (Y.out hb)
            clear hb
            go_wp2_with fail
            refine (implNumYes p q ⟨#[]⟩ _ (by decide) HB.out).mono ?_
            rintro e w1 ⟨rfl, hb1⟩
            obtain ⟨hc, hf⟩ := bcell hb1
            have B1 := Lib.hid hb1
            have B2 := Lib.hid ((below_drewN' ((Below.refl w.heap.size w).alloc (Nat.le_refl _) _) _).alloc (by simp) _ |>.trans (hb1.mono (by simp; omega)))
            clear hb1
            go_wp2
            rw [M.out]
            exact item_ret rfl rfl rfl (blk_below B1.out (blk_old (blk_drewN (blk_new w _ rfl)))) ⟨rfl, below_three (B2.out) (Nat.le_refl _) _ _ _⟩
end Go.Proofs.Ytpekdmocgjjhnaa

/- NumberVector on both sides. -/
namespace Go.Proofs.Ytpekdmocgjjhnaa
open Go.RowKit
set_option maxRecDepth 100000
set_option linter.unusedVariables false

def numI (x : Int) : It := ⟨(mkI x 1).n, (mkI x 1).d, ⟨#[]⟩⟩
end Go.Proofs.Ytpekdmocgjjhnaa

/- SequenceOf on both sides. -/
namespace Go.Proofs.Ytpekdmocgjjhnaa
open Go.RowKit
set_option maxRecDepth 100000
set_option linter.unusedVariables false

def InW (x : Int) : Prop := -999999999 ≤ x ∧ x ≤ 999999999
def SeqOk (a b : Int) : Prop := InW a ∧ InW b ∧ (b - a).natAbs < 40
def seqI (a b : Int) (i : Nat) : Int := if a ≤ b then a + (i : Int) else a - (i : Int)
def seqG (a b : Int) (i : Nat) : It := ⟨seqI a b i, 1, ⟨#[]⟩⟩
noncomputable def seqV (a b : Int) : Vec := match bB (SeqOk a b) with | true => vecOf 2 (itF (seqG a b) ((b - a).natAbs + 1)) | false => noV
noncomputable def seqS (a b : Int) : ByteArray := match bB (SeqOk a b) with | true => ⟨#[]⟩ | false => bigB
/-- -1, 0 or 1. -/
def cmpZ (x y : Int) : Int := if x < y then -1 else if y < x then 1 else 0
def intsF (f : Nat → Int) (n : Nat) : List Value := (List.range n).map (fun i => .int .i64 (f i))
/-- A row of the call's own that holds ints. -/
theorem ints_of_row {w : World} {B m : Nat} {v : Value} {f : Nat → Int} (h : w.ownsRow B 3 1 v m (intsF f m)) : ∃ sa c, v = .slice sa m c ∧ IntsAt w.heap.size w sa m f := by
  obtain ⟨_, h⟩ := h
  rcases h with ⟨rfl, rfl⟩ | ⟨g, cap, cur, rfl, hB, hg, hc, _, hs, ht⟩
  · exact ⟨none, 0, rfl, fun i hi => absurd hi (Nat.not_lt_zero _)⟩
  · refine ⟨some ⟨g, 0, none⟩, cap, rfl, fun i hi => ⟨g, 0, rfl, (Array.getElem?_eq_some_iff.1 hg).1, ?_⟩⟩
    rw [Nat.zero_add]
    refine cellOf hg ?_
    have h1 : (cur.toList.take (m * 1))[i]? = (intsF f m)[i]? := by rw [ht]
    rw [List.getElem?_take_of_lt (by omega), Array.getElem?_toList] at h1
    rw [h1]; unfold intsF; simp [hi]
/-- What the program's loop keeps: the result's block, the ints so far. -/
structure IntL (w wr : World) (f : Nat → Int) (k : Nat) (v : Value) : Prop where
  res : wr.heap[w.heap.size]? = some (.cells #[.int .i64 0, .slice none 0 0, .slice none 0 0, .slice none 0 0, .slice none 0 0, .slice none 0 0, .int .i64 0, .int .i64 0] 31 (0, 0))
  row : wr.ownsRow (w.heap.size + 1) 3 1 v k (intsF f k)
  below : Below w.heap.size w wr
theorem IntL.start (w : World) (f : Nat → Int) : IntL w (w.alloc (.cells #[.int .i64 0, .slice none 0 0, .slice none 0 0, .slice none 0 0, .slice none 0 0, .slice none 0 0, .int .i64 0, .int .i64 0] 31)) f 0 (.slice none 0 0) := ⟨blk_new w _ rfl, ⟨rfl, .inl ⟨rfl, rfl⟩⟩, below1 w _⟩
end Go.Proofs.Ytpekdmocgjjhnaa

/- The reference's view of a vector as numbers and as logical values. -/
namespace Go.Proofs.Ytpekdmocgjjhnaa
open Go.RowKit
set_option maxRecDepth 100000
set_option linter.unusedVariables false

/-- What a loop that appends ints keeps. -/
structure IntR (w wr : World) (f : Nat → Int) (k : Nat) (v : Value) : Prop where
  row : wr.ownsRow w.heap.size 3 1 v k (intsF f k)
  below : Below w.heap.size w wr
theorem IntR.below' {w wr w1 : World} {f : Nat → Int} {k : Nat} {v : Value} (h : IntR w wr f k v) (hb : Below wr.heap.size wr w1) : IntR w w1 f k v := ⟨ownsRow_below h.row hb, below_then h.below hb⟩
end Go.Proofs.Ytpekdmocgjjhnaa

/- Ints that are appended in a region that draws its order; remainders. -/
namespace Go.Proofs.Ytpekdmocgjjhnaa
open Go.RowKit
set_option maxRecDepth 100000
set_option linter.unusedVariables false

section
variable {P : Program} {ops : Array Oper} {Q : Exit → Act → World → Prop} {S : World → Prop}
variable {r : List (Nat × Bool)} {a : Act} {e : List (Nat × Value)} {w : World} {i d : Nat} {g : Option (Nat × Bool)} {v : Value}
theorem run_rem {x y : Operand} {t t' : TypeId} {k : IntKind} {p q z : Int} (ho : opAt ops i = some (some d, .binOp .rem t x y t', g)) (hd : Nat.blt d a.tmps.size = true)
    (hw : wantE ops a e g = some true) (hx : lookO a e x = .int k p) (hy : lookO a e y = .int k q) (hz : q ≠ 0 ∧ p.tmod q = z)
    (h : RunE P ops Q S r a ((d, .int k z) :: e) w) : RunE P ops Q S ((i, true) :: r) a e w :=
  run_yield ho hd hw (fun o w' h1 _ => by
    unfold execOp; rw [h1]; simp only [hx, hy]; obtain ⟨h0, rfl⟩ := hz
    simp [eqGuard, binOp, Op.intDiv, go_sem, h0]) h
end
section
variable {ops : Array Oper} {Q : Exit → Act → World → Prop} {S : World → Prop}
variable {r : List (Nat × Bool)} {a : Act} {e : List (Nat × Value)} {w : World} {i d : Nat} {g : Option (Nat × Bool)} {v : Value}
theorem IntR.keep {w wr w1 : World} {f : Nat → Int} {k : Nat} {v : Value} (h : IntR w wr f k v) (hb : Below wr.heap.size wr w1) : IntR w w1 f k v := h.below' hb
end
end Go.Proofs.Ytpekdmocgjjhnaa

/- Calls by a function's value, items at an index, items that are appended to a local slice: operations of a region that draws its order. -/
namespace Go.Proofs.Ytpekdmocgjjhnaa
open Go.RowKit
set_option maxRecDepth 100000
set_option linter.unusedVariables false

section
variable {P : Program} {ops : Array Oper} {Q : Exit → Act → World → Prop} {S : World → Prop}
variable {r : List (Nat × Bool)} {a : Act} {e : List (Nat × Value)} {w : World} {i d : Nat} {g : Option (Nat × Bool)} {v : Value}
end
section
variable {ops : Array Oper} {Q : Exit → Act → World → Prop} {S : World → Prop} {w0 : World} {L : List (Nat × TypeId × Array Value)}
variable {r : List (Nat × Bool)} {a : Act} {e : List (Nat × Value)} {w : World} {i d : Nat} {g : Option (Nat × Bool)} {v : Value}
/-- The address of an item of a slice. -/
theorem run_idx3 {x y : Operand} {b off n c k : Nat} (ho : opAt ops i = some (some d, .indexAddr 28 x y, g)) (hd : Nat.blt d a.tmps.size = true) (hw : wantE ops a e g = some true)
    (hx : lookO a e x = .slice (some ⟨b, off, none⟩) n c) (hy : lookO a e y = .int .i64 (k : Int)) (hk : k < n)
    (h : RunE Try.prog ops Q S r a ((d, .pointer (some ⟨b, off + k * 3, none⟩)) :: e) w) : RunE Try.prog ops Q S ((i, true) :: r) a e w :=
  run_yield ho hd hw (fun o w' h1 _ => by
    unfold execOp; rw [h1]; simp only [hx, hy]
    refine run_v ?_
    obtain ⟨ie, hie, _, hsz, _⟩ := info_parts infoItm3
    have he : Try.prog.elem 28 = 63 := by kernel_rfl
    rw [← he] at hie
    rw [run_indexAt_slice (h := Try.underlying28), if_pos ⟨Int.natCast_nonneg k, by omega⟩]
    simp [sizeOf, typeInfo, hie, hsz, addr_add]) h
/-- An item that lay there at the outset. -/
theorem runC_oldI {x : Operand} {b j : Nat} {z : It} (ho : opAt ops i = some (some d, .load 63 x, g)) (hd : Nat.blt d a.tmps.size = true) (hw : wantE ops a e g = some true)
    (hx : lookO a e x = .pointer (some ⟨b, j, none⟩)) (hb : b < w0.heap.size) (h0 : w0.cell? ⟨b, j, none⟩ = some (.int .i64 z.n)) (h1 : w0.cell? ⟨b, j + 1, none⟩ = some (.int .i64 z.d)) (h2 : w0.cell? ⟨b, j + 2, none⟩ = some (.string z.t))
    (h : RunE Try.prog ops Q (fun w' => HeldC w0 w' L) r a ((d, .agg #[.int .i64 z.n, .int .i64 z.d, .string z.t]) :: e) w) : RunE Try.prog ops Q (fun w' => HeldC w0 w' L) ((i, true) :: r) a e w :=
  run_load ho hd hw hx (fun w' hS => run_loadVar_mid w' b j 63 [.int .i64 z.n, .int .i64 z.d, .string z.t] _ (fun k v hv => by
    have hlt : k < 3 := by have := (List.getElem?_eq_some_iff.1 hv).1; simpa using this
    rw [hS.1.cell (p := ⟨b, j + k, none⟩) hb, ← hv]
    rcases (show k = 0 ∨ k = 1 ∨ k = 2 by omega) with rfl | rfl | rfl
    · exact h0
    · exact h1
    · exact h2) Try.underlying63 rfl infoItem) h
/-- What a loop that appends items to a local slice keeps. -/
structure ItR (w wr : World) (l : List It) (v : Value) : Prop where
  row : wr.ownsRow w.heap.size 63 3 v l.length (itCells l)
  below : Below w.heap.size w wr
theorem ItR.keep {w wr w1 : World} {l : List It} {v : Value} (h : ItR w wr l v) (hb : Below wr.heap.size wr w1) : ItR w w1 l v := ⟨ownsRow_below h.row hb, below_then h.below hb⟩
end
end Go.Proofs.Ytpekdmocgjjhnaa

/- Chapter 7: problems, the first equal element. -/
namespace Go.Proofs.Ytpekdmocgjjhnaa
open Go.RowKit
set_option maxRecDepth 100000
set_option linter.unusedVariables false

/-- "not an atomic vector" and its like. -/
def natB : ByteArray := ⟨#[110, 111, 116, 32, 97, 110, 32, 97, 116, 111, 109, 105, 99, 32, 118, 101, 99, 116, 111, 114]⟩
def nlgB : ByteArray := ⟨#[110, 111, 116, 32, 97, 32, 108, 111, 103, 105, 99, 97, 108, 32, 118, 101, 99, 116, 111, 114]⟩
def nelB : ByteArray := ⟨#[110, 111, 116, 32, 97, 32, 118, 101, 99, 116, 111, 114, 32, 111, 102, 32, 101, 108, 101, 109, 101, 110, 116, 115]⟩
def kindV (v : Vec) : Int := match v with | .mk k _ _ _ _ _ _ _ => k
/-- The problem of a vector that must be atomic or NULL. -/
noncomputable def atmS (v : Vec) : ByteArray := match bB (ValidV v), bB (kindV v ≤ 3) with | false, _ => badB | true, false => natB | true, true => ⟨#[]⟩
/-- Is r the first place of x in l, or -1? -/
def FirstIs (l : List It) (x : It) (r : Int) : Prop := (r = -1 ∧ ∀ i, i < l.length → l.getD i noI ≠ x) ∨ ∃ j : Nat, r = j ∧ j < l.length ∧ l.getD j noI = x ∧ ∀ i, i < j → l.getD i noI ≠ x
/-- Is there an equal element ahead? -/
def DupAt (l : List It) (i : Nat) : Prop := ∃ j, j < i ∧ l.getD j noI = l.getD i noI
section
variable {ops : Array Oper} {Q : Exit → Act → World → Prop} {S : World → Prop}
variable {r : List (Nat × Bool)} {a : Act} {e : List (Nat × Value)} {w : World} {i d : Nat} {g : Option (Nat × Bool)}
end
theorem ItemsAt.take {lo hi : Nat} {w : World} {a : Option Addr} {l : List It} (h : ItemsAt lo hi w a l) (k : Nat) : ItemsAt lo hi w a (l.take k) := fun i x hx => by
  rw [List.getElem?_take] at hx
  split at hx
  · exact h i x hx
  · cases hx
end Go.Proofs.Ytpekdmocgjjhnaa

/- NotVector as data. -/
namespace Go.Proofs.Ytpekdmocgjjhnaa
open Go.RowKit
set_option maxRecDepth 100000
set_option linter.unusedVariables false

def notIt (x : It) : It := logI (nL (truthI x))
/-- What NotVector answers. -/
noncomputable def notV (v : Vec) : Vec := match bB (ValidV v ∧ Counts v), v with
  | true, .mk _ items _ names _ _ _ _ => mkN 1 (itF (fun i => notIt (items.getD i noI)) items.length) names
  | false, _ => noV
noncomputable def notS (v : Vec) : ByteArray := match bB (ValidV v), bB (Counts v) with
  | false, _ => badB
  | true, false => nonLogB
  | true, true => ⟨#[]⟩
end Go.Proofs.Ytpekdmocgjjhnaa

/- Lists of ints that a call builds: indexesWhere, positionsOf. -/
namespace Go.Proofs.Ytpekdmocgjjhnaa
open Go.RowKit
set_option maxRecDepth 100000
set_option linter.unusedVariables false

/-- A list of ints in memory. -/
def intC (l : List Int) : List Value := l.map (fun x => .int .i64 x)
theorem intC_app (l m : List Int) : intC l ++ intC m = intC (l ++ m) := by unfold intC; rw [List.map_append]
theorem intC_F (l : List Int) : intsF (fun i => l.getD i 0) l.length = intC l := by
  unfold intsF intC
  apply List.ext_getElem
  · simp
  · intro i h1 h2
    simp only [List.length_map] at h2
    simp [List.getD_eq_getElem?_getD, h2]
/-- What a loop that appends ints to a local slice keeps. -/
structure IntZ (w wr : World) (l : List Int) (v : Value) : Prop where
  row : wr.ownsRow w.heap.size 3 1 v l.length (intC l)
  below : Below w.heap.size w wr
theorem IntZ.keep {w wr w1 : World} {l : List Int} {v : Value} (h : IntZ w wr l v) (hb : Below wr.heap.size wr w1) : IntZ w w1 l v := ⟨ownsRow_below h.row hb, below_then h.below hb⟩
theorem IntZ.nil (w wr : World) (hb : Below w.heap.size w wr) : IntZ w wr [] (.slice none 0 0) := ⟨⟨rfl, .inl ⟨rfl, rfl⟩⟩, hb⟩
theorem IntZ.nil0 (w wr : World) (hb : Below w.heap.size w wr) : IntZ w (wr.alloc (.cells #[] 3)) [] (.slice (some ⟨wr.heap.size, 0, none⟩) 0 0) := ⟨⟨rfl, .inr ⟨wr.heap.size, 0, #[], rfl, hb.size, blk_new wr _ rfl, Nat.le_refl _, Nat.zero_le _, rfl, rfl⟩⟩, hb.alloc hb.size _⟩
theorem IntZ.ints {w wr : World} {l : List Int} {v : Value} (h : IntZ w wr l v) : ∃ sa c, v = .slice sa l.length c ∧ IntsAt wr.heap.size wr sa l.length (fun i => l.getD i 0) :=
  ints_of_row (f := fun i => l.getD i 0) (by rw [intC_F]; exact h.row)
theorem wpList_appInt {w0 w : World} {ops : Array Oper} {rest : List Oper} {o : Oper} {a : Act} {Q : Exit → Act → World → Prop} (hgd : o.guard = none) (s x : Operand)
    (ho : o.op = .call { callee := .builtin .append, args := #[s, x], argTypes := #[39, 39] }) (z : Int) (l : List Int) (v0 : Value) (b : Nat) (hs : a.eval s = v0) (hx : a.eval x = .slice (some ⟨b, 0, none⟩) 1 1)
    (hr : IntZ w0 w l v0) (hb : w.heap[b]? = some (.cells #[.int .i64 z] 3 (0, 0))) (hn : l.length ≤ 1048576)
    (h : ∀ v' w', IntZ w0 w' (l ++ [z]) v' → wpList Try.prog ops Q rest (a.put o.dst v') w') : wpList Try.prog ops Q (o :: rest) a w := by
  obtain ⟨i0, hi0, hz0, hz1, hz2⟩ := info_parts infoInt
  refine wpList_append_own w hgd s x 39 ho w0.heap.size 3 i0 (.int .i64 0) 1 8 Try.underlying39 hi0 hz0 hz1 hz2 rfl (by decide) v0 l.length (intC l) hs hr.row ⟨b, 0, none⟩ 1 1 [.int .i64 z] hx rfl (fun j u hj => ?_) (fun u hu => by obtain rfl := List.mem_singleton.1 hu; rfl) (by unfold maxLen; omega) (by omega) hr.below.size (fun v' w' h1 h2 _ => ?_)
  · obtain rfl : j = 0 := by have := (List.getElem?_eq_some_iff.1 hj).1; simpa using this
    obtain rfl : Value.int .i64 z = u := by simpa using hj
    rw [addr_add]
    exact cellOf hb rfl
  · have e1 : l.length + 1 = (l ++ [z]).length := by simp
    have e2 : intC l ++ [Value.int .i64 z] = intC (l ++ [z]) := intC_app l [z]
    rw [e1, e2] at h1
    exact h v' w' ⟨h1, hr.below.grown h2 hr.below.size (fun r hr' => (hr.row.lt r hr').1)⟩
/-- The indexes below k at which p holds. -/
def whN (p : Nat → Bool) (k : Nat) : List Nat := (List.range k).filter p
def whZ (p : Nat → Bool) (k : Nat) : List Int := (whN p k).map (fun (i : Nat) => (i : Int))
theorem whN_yes {p : Nat → Bool} {k : Nat} (h : p k = true) : whN p (k + 1) = whN p k ++ [k] := by unfold whN; rw [List.range_succ, List.filter_append]; simp [h]
theorem whN_no {p : Nat → Bool} {k : Nat} (h : p k = false) : whN p (k + 1) = whN p k := by unfold whN; rw [List.range_succ, List.filter_append]; simp [h]
theorem whN_len (p : Nat → Bool) (k : Nat) : (whN p k).length ≤ k := by unfold whN; have := List.length_filter_le p (List.range k); simpa using this
theorem whN_at {p : Nat → Bool} {k i : Nat} (h : i < (whN p k).length) : (whN p k).getD i 0 < k ∧ p ((whN p k).getD i 0) = true := by
  have hm : (whN p k).getD i 0 ∈ whN p k := by rw [List.getD_eq_getElem?_getD, List.getElem?_eq_getElem h]; exact List.getElem_mem h
  have hm' := List.mem_filter.1 hm
  exact ⟨List.mem_range.1 hm'.1, hm'.2⟩
def posZ (f : Nat → Int) (k : Nat) : List Int := (List.range k).map (fun i => f i + 1)
theorem posZ_succ (f : Nat → Int) (k : Nat) : posZ f (k + 1) = posZ f k ++ [f k + 1] := by unfold posZ; rw [List.range_succ, List.map_append]; rfl
theorem posZ_len (f : Nat → Int) (k : Nat) : (posZ f k).length = k := by unfold posZ; simp
set_option maxHeartbeats 2000000 in
theorem implPos (a : Option Addr) (n c : Nat) (f : Nat → Int) (B : Nat) (w : World) (hs : IntsAt B w a n f) (hB : B ≤ w.heap.size) (hn : n ≤ 1048576) (hin : ∀ i, i < n → 0 ≤ f i ∧ f i ≤ 1048576) :
    Calls Try.prog 116 #[.slice a n c] w fun e w' => ∃ v, e = .returned v ∧ IntZ w w' (posZ f n) v := by
  have SA := Lib.hid hs
  have HI := Lib.hid hin
  have NX0 := Lib.hid (posZ_succ f)
  have ST := Lib.hid (IntZ.nil w w (Below.refl _ _))
  clear hs hin
  go_enter Try.func116, Try.ntmps116
  go_wp2
  go_loopw [3, 8] (fun v i wr => ∃ k : Nat, k ≤ n ∧ i = .int .i64 k ∧ IntZ w wr (posZ f k) v) (fun _ i _ => n - (intOf i).toNat)
  case atStart => exact ⟨0, Nat.zero_le _, rfl, ST.out⟩
  case round =>
    obtain ⟨k, hk, rfl, hir⟩ := hrel
    have IR := Lib.hid hir
    clear hir
    by_cases hlt : k < n
    · obtain ⟨b, off, rfl, hbB, hc⟩ := (SA.out.below (IR.out.below.mono hB)) k hlt
      obtain ⟨h0, h1⟩ := HI.out k hlt
      have LN := Lib.hid (show (posZ f k).length ≤ 1048576 by rw [posZ_len]; omega)
      have NX := Lib.hid (NX0.out k)
      go_wp2_with (at_builtin; go_loud (refine wpList_appInt rfl _ _ rfl (f k + 1) (posZ f k) _ _ rfl rfl (IR.out.keep (below1 _ _)) (blk_new _ _ rfl) LN.out ?_))
      intro v' w3 hir
      have IN := Lib.hid (NX.out ▸ hir)
      clear hir
      go_wp2
      go_roundw
      case rel => exact ⟨k + 1, by omega, by go_num, IN.out⟩
      case measure => simp [intOf]; omega
    · obtain rfl : k = n := by omega
      go_wp2
      go_ret
      exact ⟨_, rfl, IR.out⟩
end Go.Proofs.Ytpekdmocgjjhnaa

/- Names: the first equal one, or the only one that begins with a text, on both sides. -/
namespace Go.Proofs.Ytpekdmocgjjhnaa
open Go.RowKit
set_option maxRecDepth 100000
set_option linter.unusedVariables false

/-- Does t begin with s? -/
def preB (s t : ByteArray) : Bool := decide (s.size ≤ t.size) && ((t.extract 0 s.size).toList == s.toList)
def fldP (s : ByteArray) (f : Nat → ByteArray) (i : Nat) : Bool := preB s (f i)
def oneL (l : List Nat) : Int := match l with | [i] => (i : Int) | _ => -1
/-- The place of the name, or of the only one that begins with it. -/
def fldZ (s : ByteArray) (f : Nat → ByteArray) (n : Nat) : Int := if s.size = 0 then -1 else if 0 ≤ findF s f n 0 then findF s f n 0 else oneL (whN (fldP s f) n)
theorem oneL_two {l : List Nat} (h : l.length ≠ 1) : oneL l = -1 := by
  unfold oneL
  split
  · exact absurd rfl h
  · rfl
theorem oneL_one {l : List Nat} (h : l.length = 1) : oneL l = (l.getD 0 0 : Nat) := by
  match l, h with
  | [i], _ => rfl
theorem whN_mono (p : Nat → Bool) {k m : Nat} (h : k ≤ m) : (whN p k).length ≤ (whN p m).length := by
  induction h with
  | refl => exact Nat.le_refl _
  | step _ ih =>
    rename_i m _
    cases hp : p m with
    | true => rw [whN_yes hp, List.length_append]; omega
    | false => rw [whN_no hp]; exact ih
/-- What the reference has found among the first k. -/
def OneAt (p : Nat → Bool) (k : Nat) (z : Int) : Prop := (whN p k).length ≤ 1 ∧ z = oneL (whN p k)
theorem OneAt.zero (p : Nat → Bool) : OneAt p 0 (-1) := ⟨Nat.zero_le _, rfl⟩
theorem OneAt.no {p : Nat → Bool} {k : Nat} {z : Int} (h : OneAt p k z) (hp : p k = false) : OneAt p (k + 1) z := by
  unfold OneAt; rw [whN_no hp]; exact h
theorem OneAt.yes {p : Nat → Bool} {k : Nat} {z : Int} (h : OneAt p k z) (hp : p k = true) (hz : ¬ 0 ≤ z) : OneAt p (k + 1) k := by
  obtain ⟨h1, h2⟩ := h
  have h0 : (whN p k).length = 0 := by
    rcases Nat.eq_or_lt_of_le h1 with e | e
    · rw [oneL_one e] at h2; omega
    · omega
  have e := List.eq_nil_of_length_eq_zero h0
  unfold OneAt
  rw [whN_yes hp, e]
  exact ⟨Nat.le_refl _, rfl⟩
theorem OneAt.two {p : Nat → Bool} {k n : Nat} {z : Int} (h : OneAt p k z) (hp : p k = true) (hz : 0 ≤ z) (hn : k < n) : oneL (whN p n) = -1 := by
  obtain ⟨h1, h2⟩ := h
  have e1 : (whN p k).length = 1 := by
    rcases Nat.eq_or_lt_of_le h1 with e | e
    · exact e
    · have e0 := List.eq_nil_of_length_eq_zero (show (whN p k).length = 0 by omega)
      rw [e0] at h2
      rw [h2] at hz
      exact absurd hz (by decide)
  have h3 := whN_mono p (show k + 1 ≤ n from hn)
  rw [whN_yes hp, List.length_append, e1] at h3
  exact oneL_two (by simp only [List.length_cons, List.length_nil] at h3; omega)
theorem OneAt.lt {p : Nat → Bool} {k : Nat} {z : Int} (h : OneAt p k z) : -1 ≤ z ∧ z < k := by
  obtain ⟨h1, rfl⟩ := h
  by_cases e : (whN p k).length = 1
  · rw [oneL_one e]
    have := (whN_at (p := p) (k := k) (i := 0) (by omega)).1
    omega
  · rw [oneL_two e]; omega

/-! ## The program -/
set_option maxHeartbeats 1000000 in
theorem implIndexF (s : ByteArray) (a : Option Addr) (n cap : Nat) (f : Nat → ByteArray) (B : Nat) (w : World) (hs : StrsAt B w a n f) (hn : n ≤ 9223372036854775807) :
    Calls Try.prog 50 #[.slice a n cap, .string s] w fun e w' => e = .returned (.int .i64 (findF s f n 0)) ∧ w = w' := by
  have S := Lib.hid hs
  clear hs
  go_enter Try.func50, Try.ntmps50
  go_wp2
  go_loop [8] (fun i => ∃ k : Nat, k ≤ n ∧ i = .int .i64 k ∧ FindAt s f n k) (fun i => n - (intOf i).toNat)
  case atStart => exact ⟨0, Nat.zero_le _, rfl, rfl⟩
  case round =>
    obtain ⟨k, hk, rfl, hl⟩ := hrel
    have HL := Lib.hid hl
    clear hl
    by_cases hlt : k < n
    · obtain ⟨b, off, rfl, hb, hc⟩ := S.out k hlt
      have hlt' : (k : Int) < (n : Int) := by omega
      cases hp : ((f k).toList == s.toList) with
      | true =>
        have X := Lib.hid (HL.out.yes hlt hp)
        have hp' : (s.toList == (f k).toList) = true := by rw [beq_iff_eq] at hp ⊢; exact hp.symm
        clear hp
        go_wp2
        go_ret
        exact ⟨ret_i64 X.out.symm, rfl⟩
      | false =>
        have X := Lib.hid (HL.out.no hlt hp)
        have hp' : (s.toList == (f k).toList) = false := by rw [beq_eq_false_iff_ne] at hp ⊢; exact Ne.symm hp
        clear hp
        go_wp2
        go_round
        case rel => exact ⟨k + 1, by omega, by go_num, X.out⟩
        case measure => simp [intOf]; omega
    · have X := Lib.hid (HL.out.last hlt)
      go_wp2
      go_ret
      exact ⟨ret_i64 X.out.symm, rfl⟩
end Go.Proofs.Ytpekdmocgjjhnaa

/- The implicit class of a vector, both sides. -/
namespace Go.Proofs.Ytpekdmocgjjhnaa
open Go.RowKit
set_option maxRecDepth 100000
set_option linter.unusedVariables false

def nameB (k : Int) : ByteArray := if k = 0 then ⟨#[78, 85, 76, 76]⟩ else if k = 1 then ⟨#[108, 111, 103, 105, 99, 97, 108]⟩ else if k = 2 then ⟨#[110, 117, 109, 101, 114, 105, 99]⟩ else if k = 3 then ⟨#[99, 104, 97, 114, 97, 99, 116, 101, 114]⟩ else if k = 4 then ⟨#[108, 105, 115, 116]⟩ else ⟨#[102, 117, 110, 99, 116, 105, 111, 110]⟩
noncomputable def clsV (v : Vec) : List ByteArray := match bB (ValidV v), v with
  | true, .mk k _ _ _ cls _ _ _ => if cls.length = 0 then [nameB k] else cls
  | false, _ => []
/-- What both sides answer: a list of texts in a block of its own. -/
def ClassAns (v : Vec) (w : World) (e : Ending) (w' : World) : Prop := ∃ a c F, e = .returned (.slice a (clsV v).length c) ∧ OwnTxs w' a (clsV v) F ∧ F.Nodup ∧ (∀ b ∈ F, w.heap.size ≤ b ∧ b < w'.heap.size) ∧ Below w.heap.size w w'
end Go.Proofs.Ytpekdmocgjjhnaa

/- Lemmas for laws whose result lies in memory. -/
namespace Go.Proofs.Ytpekdmocgjjhnaa
open Go.RowKit
set_option maxRecDepth 100000
set_option linter.unusedVariables false

theorem sumN_le2 {f g : Nat → Nat} {n : Nat} (h : ∀ i, i < n → f i ≤ 3 * g i + 3) : sumN f n ≤ 3 * sumN g n + 3 * n := by
  induction n with
  | zero => simp [sumN]
  | succ n ih =>
    have h1 := ih (fun i hi => h i (by omega))
    have h2 := h n (by omega)
    simp only [sumN]
    omega
theorem cntM_le : ∀ (d : Nat) (v : Vec), cntM d v ≤ 3 * wV d v
  | 0, v => Nat.zero_le _
  | d + 1, .mk k items parts names cls levels code env => by
    rw [cntM_eq]
    have e : wV (d + 1) (.mk k items parts names cls levels code env) = (items.length + sumF (txtI items) items.length) + (parts.length + sumN (fun i => wV d (parts.getD i noV)) parts.length) + (names.length + sumF (txtS names) names.length) + (cls.length + sumF (txtS cls) cls.length) + (levels.length + sumF (txtS levels) levels.length) := rfl
    rw [e]
    have h : cntP d parts parts.length ≤ 3 * sumN (fun i => wV d (parts.getD i noV)) parts.length + 3 * parts.length := sumN_le2 (fun i _ => by have := cntM_le d (parts.getD i noV); omega)
    omega
theorem OwnTxs.texts {w : World} {a : Option Addr} {l : List ByteArray} {F : List Nat} {hi : Nat} (h : OwnTxs w a l F) (hF : ∀ b ∈ F, b < hi) : TextsAt 0 hi w a l := h.at_ (fun b hb => ⟨Nat.zero_le _, hF b hb⟩)
end Go.Proofs.Ytpekdmocgjjhnaa

/- Laws whose argument is a vector and whose result is one. -/
namespace Go.Proofs.Ytpekdmocgjjhnaa
open Go.RowKit
set_option maxRecDepth 100000
set_option linter.unusedVariables false

theorem VecAt.agg {lo hi : Nat} {w : World} {d : Nat} {v : Vec} {y : Value} (h : VecAt lo hi w d v y) : ∃ (k : Int) (a1 : Option Addr) (n1 m1 : Nat) (a2 : Option Addr) (n2 m2 : Nat) (a3 : Option Addr) (n3 m3 : Nat) (a4 : Option Addr) (n4 m4 : Nat) (a5 : Option Addr) (n5 m5 : Nat) (code env : Int), y = .agg #[.int .i64 k, .slice a1 n1 m1, .slice a2 n2 m2, .slice a3 n3 m3, .slice a4 n4 m4, .slice a5 n5 m5, .int .i64 code, .int .i64 env] := by
  obtain ⟨k, items, parts, names, cls, levels, code, env⟩ := v
  obtain ⟨d', ai, ci, ap, cp, an, cn, ac, cc, al, cl, ed, e, _⟩ := vecAt_open h
  exact ⟨_, _, _, _, _, _, _, _, _, _, _, _, _, _, _, _, _, _, e⟩
theorem toVecR (d : Nat) (v : Vec) (x : Value) (lo hi : Nat) (w : World) (hv : VecAt lo hi w d v x) (hhi : hi ≤ w.heap.size) (hsm : Small d v) :
    Calls Try.prog 7 #[x] w (ResV d v w) := by
  refine ((toAll d).out v x lo hi w hv hhi hsm).mono ?_
  rintro e w' ⟨y, F, rfl, ho, hn, hr, hb⟩
  exact ⟨y, rfl, ⟨F, ho, hn, hr⟩, hb⟩
/-- The zero value, or a vector of items and names that fit. -/
def PlainN (V : Vec) : Prop := V = noV ∨ ∃ k l names, V = mkN k l names ∧ (-9223372036854775808 ≤ k ∧ k ≤ 9223372036854775807) ∧ l.length ≤ 40 ∧ (∀ x ∈ l, InB x ∧ x.t.size ≤ 1048576) ∧ names.length ≤ 1048576 ∧ ∀ s ∈ names, s.size ≤ 1048576
theorem PlainN.small {V : Vec} (h : PlainN V) : Small 1 V := by
  rcases h with rfl | ⟨k, l, names, rfl, hk, hl, hx, hn, hs⟩
  · exact small_noV
  · exact small_mkN (by omega) (fun x h => (hx x h).2) hn hs
theorem PlainN.fits {V : Vec} (h : PlainN V) : Fits 1 V := by
  rcases h with rfl | ⟨k, l, names, rfl, hk, hl, hx, hn, hs⟩
  · exact fits_noV
  · exact fits_mkN hk (by omega) (fun x h => (hx x h).1) hn hs
end Go.Proofs.Ytpekdmocgjjhnaa

/- Rows of vectors that a call builds by append. -/
namespace Go.Proofs.Ytpekdmocgjjhnaa
open Go.RowKit
set_option maxRecDepth 100000
set_option linter.unusedVariables false

def cl8 : Value → List Value
  | .agg cs => cs.toList
  | _ => []
def Is8 (v : Value) : Prop := ∃ c0 c1 c2 c3 c4 c5 c6 c7, v = .agg #[c0, c1, c2, c3, c4, c5, c6, c7]
theorem OwnVec.is8 {w : World} {d : Nat} {v : Vec} {y : Value} {F : List Nat} (h : OwnVec w d v y F) : Is8 y := by
  obtain ⟨k, a1, n1, m1, a2, n2, m2, a3, n3, m3, a4, n4, m4, a5, n5, m5, code, env, rfl⟩ := h.agg
  exact ⟨_, _, _, _, _, _, _, _, rfl⟩
theorem flat8_at : ∀ (vals : List Value), (∀ v ∈ vals, Is8 v) → ∀ i, i < vals.length → ∃ c0 c1 c2 c3 c4 c5 c6 c7, vals.getD i undef = .agg #[c0, c1, c2, c3, c4, c5, c6, c7] ∧
    (vals.flatMap cl8)[i * 8]? = some c0 ∧ (vals.flatMap cl8)[i * 8 + 1]? = some c1 ∧ (vals.flatMap cl8)[i * 8 + 2]? = some c2 ∧ (vals.flatMap cl8)[i * 8 + 3]? = some c3 ∧ (vals.flatMap cl8)[i * 8 + 4]? = some c4 ∧ (vals.flatMap cl8)[i * 8 + 5]? = some c5 ∧ (vals.flatMap cl8)[i * 8 + 6]? = some c6 ∧ (vals.flatMap cl8)[i * 8 + 7]? = some c7
  | [], _, _, h => by cases h
  | v :: vals, h, 0, _ => by
    obtain ⟨c0, c1, c2, c3, c4, c5, c6, c7, rfl⟩ := h v (List.mem_cons_self ..)
    exact ⟨c0, c1, c2, c3, c4, c5, c6, c7, rfl, rfl, rfl, rfl, rfl, rfl, rfl, rfl, rfl⟩
  | v :: vals, h, i + 1, hi => by
    obtain ⟨d0, d1, d2, d3, d4, d5, d6, d7, rfl⟩ := h v (List.mem_cons_self ..)
    obtain ⟨c0, c1, c2, c3, c4, c5, c6, c7, e, m⟩ := flat8_at vals (fun x hx => h x (List.mem_cons_of_mem _ hx)) i (by simpa using hi)
    refine ⟨c0, c1, c2, c3, c4, c5, c6, c7, by simpa using e, ?_⟩
    have key : ∀ j, ((Value.agg #[d0, d1, d2, d3, d4, d5, d6, d7] :: vals).flatMap cl8)[(i + 1) * 8 + j]? = (vals.flatMap cl8)[i * 8 + j]? := fun j => by
      have e1 : (i + 1) * 8 + j = (i * 8 + j) + 8 := by omega
      rw [e1]; rfl
    have k0 := key 0
    simp only [Nat.add_zero] at k0
    rw [k0, key 1, key 2, key 3, key 4, key 5, key 6, key 7]
    exact m
/-- A slice of vectors, each with its own blocks. -/
def OwnParts (w : World) (d : Nat) (v : Value) (parts : List Vec) (F : List Nat) : Prop := ∃ ap cp, v = .slice ap parts.length cp ∧ parts.length ≤ cp ∧
  ((parts = [] ∧ F = []) ∨ ∃ b C, ∃ Fs : List (List Nat), F = b :: Fs.flatten ∧ Fs.length = parts.length ∧ ap = some ⟨b, 0, none⟩ ∧ w.heap[b]? = some (.cells C 31 (0, 0)) ∧ parts.length * 8 ≤ C.size ∧
    ∀ i, i < parts.length → ∃ val, OwnVec w d (parts.getD i noV) val (Fs.getD i []) ∧ Eight C i val)
/-- What a loop that appends vectors keeps. -/
structure RowV (w wr : World) (d : Nat) (parts : List Vec) (k : Nat) (v : Value) : Prop where
  ex : ∃ (vals : List Value) (Fs : List (List Nat)), vals.length = k ∧ Fs.length = k ∧ wr.ownsRow w.heap.size 31 8 v k (vals.flatMap cl8) ∧
    (∀ i, i < k → OwnVec wr d (parts.getD i noV) (vals.getD i undef) (Fs.getD i [])) ∧ Fs.flatten.Nodup ∧ (∀ b ∈ Fs.flatten, w.heap.size ≤ b ∧ b < wr.heap.size ∧ v.ownBlock ≠ some b)
  below : Below w.heap.size w wr
theorem RowV.start (w : World) (d : Nat) (parts : List Vec) : RowV w w d parts 0 (.slice none 0 0) :=
  ⟨⟨[], [], rfl, rfl, ⟨rfl, .inl ⟨rfl, rfl⟩⟩, fun i h => absurd h (Nat.not_lt_zero _), List.nodup_nil, fun b h => by cases h⟩, Below.refl _ _⟩
theorem RowV.is8 {vals : List Value} {k d : Nat} {parts : List Vec} {Fs : List (List Nat)} {wr : World} (hl : vals.length = k) (h : ∀ i, i < k → OwnVec wr d (parts.getD i noV) (vals.getD i undef) (Fs.getD i [])) : ∀ v ∈ vals, Is8 v := by
  intro v hv
  obtain ⟨i, hi, e⟩ := mem_getD (z := undef) hv
  rw [← e]
  exact (h i (by omega)).is8
theorem RowV.row {w wr : World} {d k : Nat} {parts : List Vec} {v : Value} (h : RowV w wr d parts k v) : ∃ xs, wr.ownsRow w.heap.size 31 8 v k xs := by
  obtain ⟨vals, Fs, _, _, hr, _⟩ := h.ex
  exact ⟨_, hr⟩
/-- Behind the copy of an element and the slice of one. -/
theorem RowV.keep {w wr w1 : World} {d k : Nat} {parts : List Vec} {v : Value} (h : RowV w wr d parts k v) (hb : Below wr.heap.size wr w1) : RowV w w1 d parts k v := by
  obtain ⟨vals, Fs, h1, h2, h3, h4, h5, h6⟩ := h.ex
  exact ⟨⟨vals, Fs, h1, h2, ownsRow_below h3 hb, fun i hi => (h4 i hi).kept _ _ _ _ (fun b hb' => hb.block b (h6 b (mem_flat (by omega) hb')).2.1), h5, fun b hb' => ⟨(h6 b hb').1, Nat.lt_of_lt_of_le (h6 b hb').2.1 hb.size, (h6 b hb').2.2⟩⟩, below_then h.below hb⟩
theorem RowV.parts {w wr : World} {d : Nat} {parts : List Vec} {v : Value} (h : RowV w wr d parts parts.length v) : ∃ F, OwnParts wr d v parts F ∧ F.Nodup ∧ ∀ b ∈ F, w.heap.size ≤ b ∧ b < wr.heap.size := by
  obtain ⟨vals, Fs, h1, h2, ⟨hl, h3⟩, h4, h5, h6⟩ := h.ex
  rcases h3 with ⟨rfl, h0⟩ | ⟨g, cap, cur, rfl, hB, hg, hc, _, hs, ht⟩
  · have hp : parts = [] := List.eq_nil_of_length_eq_zero h0
    subst hp
    exact ⟨[], ⟨none, 0, rfl, Nat.le_refl _, .inl ⟨rfl, rfl⟩⟩, List.nodup_nil, fun _ hb => by cases hb⟩
  · have hgl := (Array.getElem?_eq_some_iff.1 hg).1
    refine ⟨g :: Fs.flatten, ⟨_, cap, rfl, hc, .inr ⟨g, cur, Fs, rfl, h2, rfl, hg, by omega, fun i hi => ⟨_, h4 i hi, ?_⟩⟩⟩, ?_, ?_⟩
    · obtain ⟨c0, c1, c2, c3, c4, c5, c6, c7, e, m0, m1, m2, m3, m4, m5, m6, m7⟩ := flat8_at vals (RowV.is8 h1 h4) i (by omega)
      have key : ∀ j, j < parts.length * 8 → cur[j]? = (vals.flatMap cl8)[j]? := fun j hj => by
        rw [← ht, List.getElem?_take_of_lt hj, Array.getElem?_toList]
      refine ⟨c0, c1, c2, c3, c4, c5, c6, c7, e, ?_, ?_, ?_, ?_, ?_, ?_, ?_, ?_⟩
      · rw [key _ (by omega)]; exact m0
      · rw [key _ (by omega)]; exact m1
      · rw [key _ (by omega)]; exact m2
      · rw [key _ (by omega)]; exact m3
      · rw [key _ (by omega)]; exact m4
      · rw [key _ (by omega)]; exact m5
      · rw [key _ (by omega)]; exact m6
      · rw [key _ (by omega)]; exact m7
    · rw [List.nodup_cons]
      exact ⟨fun hm => (h6 g hm).2.2 rfl, h5⟩
    · intro b hb
      rcases List.mem_cons.1 hb with rfl | hb
      · exact ⟨hB, hgl⟩
      · exact ⟨(h6 b hb).1, (h6 b hb).2.1⟩
end Go.Proofs.Ytpekdmocgjjhnaa

/- The program's copies of vectors. -/
namespace Go.Proofs.Ytpekdmocgjjhnaa
open Go.RowKit
set_option maxRecDepth 100000
set_option linter.unusedVariables false

theorem OwnParts.kept {w w1 : World} {d : Nat} {v : Value} {parts : List Vec} {F : List Nat} (h : OwnParts w d v parts F) (k : ∀ b ∈ F, w1.heap[b]? = w.heap[b]?) : OwnParts w1 d v parts F := by
  obtain ⟨ap, cp, e, hc, h⟩ := h
  refine ⟨ap, cp, e, hc, h.imp id ?_⟩
  rintro ⟨b, C, Fs, rfl, hl, ea, hb, hn, hp⟩
  exact ⟨b, C, Fs, rfl, hl, ea, (k b (by simp)).trans hb, hn, fun i hi => by
    obtain ⟨val, hv, m⟩ := hp i hi
    exact ⟨val, hv.kept _ _ _ _ (fun b' hb' => k b' (by have := mem_flat (by omega) hb'; simp only [List.mem_cons]; exact .inr this)), m⟩⟩
/-- A copy of items. -/
def CopyIt (base : Nat) (l : List It) (v : Value) (w : World) : Prop := ∃ sa sc F, v = .slice sa l.length sc ∧ OwnIts w sa l F ∧ F.Nodup ∧ (∀ b ∈ F, base ≤ b ∧ b < w.heap.size) ∧ l.length ≤ sc
/-- The contracts at depth d: one vector, and a slice of them. -/
structure ICV (d : Nat) : Prop where
  out : ∀ (v : Vec) (val : Value) (lo hi : Nat) (w : World), VecAt lo hi w d v val → hi ≤ w.heap.size → Small d v → Calls Try.prog 52 #[val] w (ResV d v w)
def ResP (d : Nat) (parts : List Vec) (w : World) (e : Ending) (w' : World) : Prop := ∃ v F, e = .returned v ∧ OwnParts w' d v parts F ∧ F.Nodup ∧ (∀ b ∈ F, w.heap.size ≤ b ∧ b < w'.heap.size) ∧ Below w.heap.size w w' ∧ ∃ xs, w'.ownsRow w.heap.size 31 8 v parts.length xs
structure ICS (d : Nat) : Prop where
  out : ∀ (parts : List Vec) (a : Option Addr) (c lo hi : Nat) (w : World), VecsAt lo hi w d a parts → hi ≤ w.heap.size → (∀ i, i < parts.length → Small d (parts.getD i noV)) → parts.length ≤ 1048576 → Calls Try.prog 62 #[.slice a parts.length c] w (ResP d parts w)
end Go.Proofs.Ytpekdmocgjjhnaa

/- A region that draws its order where two operations that change the world may come up at once: the orders as a tree. -/
namespace Go.Proofs.Ytpekdmocgjjhnaa
set_option maxRecDepth 100000
open Go.RowKit
set_option linter.unusedVariables false

/-- An order, or an order behind which either of two operations comes up. -/
inductive Plan where
  | leaf (r : List (Nat × Bool))
  | fork (r : List (Nat × Bool)) (i : Nat) (p : Plan) (j : Nat) (q : Plan)
def Plan.cons (i : Nat) : Plan → Plan
  | .leaf r => .leaf ((i, false) :: r)
  | .fork r j p k q => .fork ((i, false) :: r) j p k q
def Plan.len : Plan → Nat
  | .leaf r => r.length
  | .fork r _ p _ _ => r.length + (p.len + 1)
section
variable {P : Program} {ops : Array Oper} {Q : Exit → Act → World → Prop} {S : World → Prop}
theorem wp_weak {Q' : Exit → Act → World → Prop} {o : Oper} {a : Act} {w : World} {K : Act → World → Prop} (hP : ∀ c a w, Q' (.panic c) a w → Q (.panic c) a w) (hL : LetsOut Q' → LetsOut Q) (hh : o.wp P a w K Q') : o.wp P a w K Q := by
  unfold Oper.wp at *
  generalize (execOp a.eval o).run P w = r at *
  cases r with
  | ok n w' =>
    cases n <;> simp only [Oper.upon] at hh ⊢ <;>
      first
        | exact hh
        | exact Calls.mono hh (fun e w'' he => by cases e <;> first | exact he | exact hP _ _ _ he | exact hL he)
  | halt x w' => cases x <;> simp only [Oper.upon] at hh ⊢ <;> first | exact hP _ _ _ hh | exact hh
theorem wpOp_weak {Q' : Exit → Act → World → Prop} {i : Nat} {a : Act} {w : World} {K : Act → World → Prop} (hP : ∀ c a w, Q' (.panic c) a w → Q (.panic c) a w) (hL : LetsOut Q' → LetsOut Q) (hh : wpOp P ops Q' i K a w) : wpOp P ops Q i K a w := by
  unfold wpOp at *
  split
  · simpa [*] using hh
  · rename_i o ho
    simp only [ho] at hh
    split
    · rename_i hw; simp only [hw, if_true] at hh; exact hh.imp (wp_weak hP hL) (fun h => ⟨h.1, hL h.2⟩)
    · rename_i hw; simp only [hw] at hh; exact hh
/-- What a fork asks at its end, and Q for all other exits. -/
def forkQ (Q : Exit → Act → World → Prop) (F : Act → World → Prop) : Exit → Act → World → Prop := fun x a w => match x with | .normal => F a w | y => Q y a w
def preOK (ops : Array Oper) : List (Nat × Bool) → Array Bool → Bool
  | [], _ => true
  | (i, true) :: r, listed => Region.free .any ops listed i && (Region.ready .any ops listed).contains i && preOK ops r (listed.setIfInBounds i true)
  | (i, false) :: r, listed => (Region.ready .any ops listed == [i]) && preOK ops r (listed.setIfInBounds i true)
def behind : List (Nat × Bool) → Array Bool → Array Bool
  | [], l => l
  | (i, _) :: r, l => behind r (l.setIfInBounds i true)
def planOK (ops : Array Oper) : Plan → Array Bool → Bool
  | .leaf r, l => schedOK ops r l
  | .fork r i p j q, l => preOK ops r l && (Region.ready .any ops (behind r l) == [i, j]) && !lastK ops i && !lastK ops j && Nat.beq p.len q.len && planOK ops p ((behind r l).setIfInBounds i true) && planOK ops q ((behind r l).setIfInBounds j true)
def seqP (P : Program) (ops : Array Oper) (Q : Exit → Act → World → Prop) (S : World → Prop) : Plan → Act → World → Prop
  | .leaf r, a, w => seqH P ops Q S r a w
  | .fork r i p j q, a, w => seqH P ops (forkQ Q fun a' w' => S w' ∧ wpOp P ops Q i (fun b v => (lastK ops i = true ∨ S v) ∧ seqP P ops Q S p b v) a' w' ∧ wpOp P ops Q j (fun b v => (lastK ops j = true ∨ S v) ∧ seqP P ops Q S q b v) a' w') S r a w
theorem pre_nil {r : List (Nat × Bool)} {l : Array Bool} (h : preOK ops r l = true) (hr : Region.ready .any ops l = []) : r = [] := by
  match r, h with
  | [], _ => rfl
  | (i, true) :: r, h => simp [preOK, hr] at h
  | (i, false) :: r, h => simp [preOK, hr] at h
theorem pre_sound {Q' : Exit → Act → World → Prop} (hs : Region.noSelect ops = true) (hQ : ∀ c a d v w, Q (.panic c) (Act.put a (some d) v) w → Q (.panic c) a w) (hQQ : ∀ c a w, Q' (.panic c) a w → Q (.panic c) a w) (hLL : LetsOut Q' → LetsOut Q) (n : Nat) :
    ∀ (r : List (Nat × Bool)) (listed : Array Bool) (a : Act) (w : World), preOK ops r listed = true → (r = [] ∨ S w) → seqH P ops Q' S r a w → (∀ a' w', Q' .normal a' w' → wpAnyL P ops Q S n (behind r listed) a' w') → wpAnyL P ops Q S (r.length + n) listed a w
  | [], listed, a, w, h, _, hq, hn => by
    rw [show ([] : List (Nat × Bool)).length + n = n by simp]
    exact hn a w hq
  | (i, true) :: r, listed, a, w, h, hS, hq, hn => by
    simp only [preOK, Bool.and_eq_true] at h
    obtain ⟨o, v, d, ho, hd, hy, hq⟩ := hq
    have hS := hS.resolve_left (by simp)
    have := pre_sound hs hQ hQQ hLL n r _ _ _ h.2 (.inr hS) hq hn
    rw [show ((i, true) :: r).length + n = (r.length + n) + 1 by simp; omega]
    exact takeL ho hs (fun c a w => by rw [hd]; exact hQ c a _ _ w) _ _ _ _ h.1.1 (by simpa using h.1.2) hy hS (by rw [hd]; exact this)
  | (i, false) :: r, listed, a, w, h, hS, hq, hn => by
    simp only [preOK, Bool.and_eq_true, beq_iff_eq] at h
    rw [show ((i, false) :: r).length + n = (r.length + n) + 1 by simp; omega]
    refine ⟨fun h0 => absurd (h.1.symm.trans h0) (by simp), fun j hj => ?_⟩
    have hji := hj
    rw [h.1] at hji
    obtain rfl : j = i := by simpa using hji
    change wpOp P ops Q' j (fun a' w' => (lastK ops j = true ∨ S w') ∧ seqH P ops Q' S r a' w') a w at hq
    have hq := wpOp_weak hQQ hLL hq
    refine wpOp_mono (fun a' w' ⟨h1, h2⟩ => ⟨h1, pre_sound hs hQ hQQ hLL n r _ _ _ h.2 ?_ h2 hn⟩) hq
    exact h1.imp (fun hl => pre_nil h.2 (lastK_none hl hj)) id
theorem plan_sound (hs : Region.noSelect ops = true) (hQ : ∀ c a d v w, Q (.panic c) (Act.put a (some d) v) w → Q (.panic c) a w) :
    ∀ (p : Plan) (listed : Array Bool) (a : Act) (w : World), planOK ops p listed = true → S w → seqP P ops Q S p a w → wpAnyL P ops Q S p.len listed a w
  | .leaf r, listed, a, w, h, hS, hq => seq_sound hs hQ r listed a w h (.inr hS) hq
  | .fork r i p j q, listed, a, w, h, hS, hq => by
    simp only [planOK, Bool.and_eq_true, beq_iff_eq, Bool.not_eq_true'] at h
    obtain ⟨⟨⟨⟨⟨⟨h1, h2⟩, h3⟩, h4⟩, h5⟩, h6⟩, h7⟩ := h
    have h5 := Nat.eq_of_beq_eq_true h5
    refine pre_sound (Q' := forkQ Q _) hs hQ (fun c a w h => h) (fun h => h) (p.len + 1) r listed a w h1 (.inr hS) hq (fun a' w' hf => ?_)
    obtain ⟨g1, g2, g3⟩ := hf
    refine ⟨fun h0 => absurd (h2.symm.trans h0) (by simp), fun k hk => ?_⟩
    rw [h2] at hk
    simp only [List.mem_cons, List.not_mem_nil, or_false] at hk
    rcases hk with rfl | rfl
    · exact wpOp_mono (fun b v hv => ⟨hv.1, plan_sound hs hQ p _ _ _ h6 (hv.1.resolve_left (by rw [h3]; simp)) hv.2⟩) g2
    · rw [h5]
      exact wpOp_mono (fun b v hv => ⟨hv.1, plan_sound hs hQ q _ _ _ h7 (hv.1.resolve_left (by rw [h4]; simp)) hv.2⟩) g3
/-- RunE over a plan. -/
def RunT (P : Program) (ops : Array Oper) (Q : Exit → Act → World → Prop) (S : World → Prop) : Plan → Act → List (Nat × Value) → World → Prop
  | .leaf r, a, e, w => RunE P ops Q S r a e w
  | .fork r i p j q, a, e, w => RunE P ops (forkQ Q fun a' w' => S w' ∧ wpOp P ops Q i (fun b v => (lastK ops i = true ∨ S v) ∧ seqP P ops Q S p b v) a' w' ∧ wpOp P ops Q j (fun b v => (lastK ops j = true ∨ S v) ∧ seqP P ops Q S q b v) a' w') S r a e w
theorem RunT.out {p : Plan} {a : Act} {e : List (Nat × Value)} {w : World} (h : RunT P ops Q S p a e w) (hk : keysIn a.tmps.size e) : seqP P ops Q S p (putAll a e) w := by
  cases p with
  | leaf r => exact RunE.out h hk
  | fork r i p j q => exact RunE.out h hk
theorem run_regionT {id : Nat} {ops' : Array Oper} {a : Act} {w : World} (p : Plan) (hops : ops' = ops) (hm : P.follows .mixedOrders = true) (hs : Region.noSelect ops = true) (hlen : Nat.beq p.len ops.size = true)
    (hsch : planOK ops p (Array.replicate ops.size false) = true) (hQ : ∀ c a d v w, Q (.panic c) (Act.put a (some d) v) w → Q (.panic c) a w) (hS : S w.drew)
    (h : RunT P ops Q S p a [] w.drew) : (Code.region id ops' true).wp P Q a w := by
  subst hops
  refine wp_region_any hm (wpAny_of_L (S := S) _ _ _ _ ?_)
  have hl := Nat.eq_of_beq_eq_true hlen
  show wpAnyL P ops' Q S ops'.size (Array.replicate ops'.size false) a w.drew
  generalize Array.replicate ops'.size false = L at hsch ⊢
  rw [← hl]
  exact plan_sound hs hQ p _ _ _ hsch hS (h.out (fun p hp => by cases hp))
end
theorem new_item (w : World) : (Instr.alloc 63 true (.tuple #[])).run Try.prog w = .ok (.pointer (some ⟨w.heap.size, 0, none⟩)) (w.alloc (.cells #[.int .i64 0, .int .i64 0, .string ⟨#[]⟩] 63)) := by
  kernel_rfl
section
variable {P : Program} {ops : Array Oper} {Q : Exit → Act → World → Prop} {S : World → Prop}
variable {r : List (Nat × Bool)} {a : Act} {e : List (Nat × Value)} {w : World} {i d : Nat} {g : Option (Nat × Bool)}
/-- A new variable, wherever it comes up. -/
theorem run_new {t : TypeId} {C : Array Value} (ho : opAt ops i = some (some d, .alloc t, g)) (hd : Nat.blt d a.tmps.size = true) (hw : wantE ops a e g = some true)
    (hn : ∀ v : World, (Instr.alloc t true (.tuple #[])).run P v = .ok (.pointer (some ⟨v.heap.size, 0, none⟩)) (v.alloc (.cells C t)))
    (h : ∀ W n, W = w.alloc (.cells C t) → n = w.heap.size → S W ∧ RunE P ops Q S r a ((d, .pointer (some ⟨n, 0, none⟩)) :: e) W) : RunE P ops Q S ((i, false) :: r) a e w := by
  obtain ⟨hS, hR⟩ := h _ _ rfl rfl
  exact run_eff (op := .alloc t) ho hd hw (fun o h1 => by unfold execOp; rw [h1]; exact run_v (hn w)) hS hR
end
section
variable {P : Program} {ops : Array Oper} {Q : Exit → Act → World → Prop} {S : World → Prop}
variable {r : List (Nat × Bool)} {a : Act} {e : List (Nat × Value)} {w : World} {i d : Nat} {g : Option (Nat × Bool)}
end
theorem Own.row {d : Nat} {V : Vec} {y : Value} {lo hi g : Nat} {c : Array Value} {w : World} (h : Own d V y lo hi w) (hg : g < lo) : Own d V y lo hi (w.setRow g c) := by
  obtain ⟨F, q1, q2, q3⟩ := h.out
  exact ⟨F, q1.kept _ _ _ _ (fun b hb => row_old rfl (by have := (q3 b hb).1; omega)), q2, q3⟩
/-- A block that was made in a region. -/
structure NewB (b : Nat) (t : TypeId) (C : Array Value) (w : World) : Prop where
  out : w.heap[b]? = some (.cells C t (0, 0))
theorem NewB.keep {b : Nat} {t : TypeId} {C : Array Value} {w w1 : World} (h : NewB b t C w) (hb : Below w.heap.size w w1) : NewB b t C w1 := ⟨blk_below hb h.out⟩
end Go.Proofs.Ytpekdmocgjjhnaa

/- A region in which several operations that change the world come up at once, in any order: an invariant over what is done, the values that they left, and the world. -/
namespace Go.Proofs.Ytpekdmocgjjhnaa
set_option maxRecDepth 100000
open Go.RowKit
set_option linter.unusedVariables false

/-- The puts of those operations of D (operation, slot) that are done, in D's order. -/
def putsI (D : List (Nat × Nat)) (l : Array Bool) (V : Nat → Value) : List (Nat × Value) :=
  (D.filter fun p => l.getD p.1 false).map fun p => (p.2, V p.2)
def updI (V : Nat → Value) (d : Nat) (v : Value) : Nat → Value := fun k => match Nat.beq d k with | true => v | false => V k
theorem updI_ne (V : Nat → Value) {d k : Nat} (v : Value) (h : d ≠ k) : updI V d v k = V k := by
  unfold updI
  cases hb : Nat.beq d k with
  | true => exact absurd (Nat.eq_of_beq_eq_true hb) h
  | false => rfl
section
variable {P : Program} {ops : Array Oper} {Q : Exit → Act → World → Prop} {S : World → Prop}
def sameB (l l' : Array Bool) : Bool := l.toList == l'.toList
/-- From l, whatever comes up is one of D's operations, what it depends on is done, and it leads to one of Ls. -/
def nextOK (ops : Array Oper) (D dep : List (Nat × Nat)) (Ls : List (Array Bool)) (l : Array Bool) : Bool :=
  match Region.ready .any ops l with
  | [] => false
  | R => R.all fun i => (D.any fun p => Nat.beq p.1 i) && !lastK ops i && Nat.blt i l.size && !l.getD i false && (dep.all fun p => !Nat.beq p.1 i || l.getD p.2 false) && Ls.any (sameB (l.setIfInBounds i true))
/-- Whatever order is taken from here: the states come in layers, the last of them is L, and then come the operations of q, in q's order. -/
def anyOK (ops : Array Oper) (D dep : List (Nat × Nat)) (q : List (Nat × Bool)) (L : Array Bool) : List (List (Array Bool)) → List (Array Bool) → Bool
  | [], cur => cur.all fun l => sameB l L && schedOK ops q l
  | Ls :: rest, cur => cur.all (nextOK ops D dep Ls) && anyOK ops D dep q L rest Ls
/-- What one operation of D must do. -/
def StepI (P : Program) (ops : Array Oper) (S : World → Prop) (J : Array Bool → (Nat → Value) → World → Prop) (D dep : List (Nat × Nat)) (a : Act) (e : List (Nat × Value)) (i d : Nat) : Prop :=
  ∀ l V w, J l V w → S w → i < l.size → l.getD i false = false → (∀ k, (i, k) ∈ dep → l.getD k false = true) →
    ∀ Q' : Exit → Act → World → Prop, (∀ v w', S w' → J (l.setIfInBounds i true) (updI V d v) w' → RunE P ops Q' S [] a ((d, v) :: (putsI D l V ++ e)) w') → RunE P ops Q' S [(i, false)] a (putsI D l V ++ e) w
end
end Go.Proofs.Ytpekdmocgjjhnaa

/- Several slices of the call's own that are made and filled in any order: the invariant for RegI. -/
namespace Go.Proofs.Ytpekdmocgjjhnaa
set_option maxRecDepth 100000
open Go.RowKit
set_option linter.unusedVariables false

theorem ownsRow_kept {w w' : World} {base : Nat} {el : TypeId} {size n : Nat} {v : Value} {xs : List Value} (h : w.ownsRow base el size v n xs) (k : ∀ g, v.ownBlock = some g → w'.heap[g]? = w.heap[g]?) : w'.ownsRow base el size v n xs := by
  obtain ⟨hl, h⟩ := h
  refine ⟨hl, h.imp id ?_⟩
  rintro ⟨g, cap, cur, rfl, hB, hg, h⟩
  exact ⟨g, cap, cur, rfl, hB, (k g rfl).trans hg, h⟩
/-- One slice: operation i makes it (slot d), operation i2 appends n elements, xs, to it (slot d2). -/
structure Ch where
  i : Nat
  d : Nat
  i2 : Nat
  d2 : Nat
  el : TypeId
  size : Nat
  n : Nat
  xs : List Value
def Ch.cur (c : Ch) (l : Array Bool) (V : Nat → Value) : Value := match l.getD c.i2 false with
  | true => V c.d2
  | false => match l.getD c.i false with
    | true => V c.d
    | false => .slice none 0 0
def Ch.num (c : Ch) (l : Array Bool) : Nat := match l.getD c.i2 false with | true => c.n | false => 0
def Ch.row (c : Ch) (l : Array Bool) : List Value := match l.getD c.i2 false with | true => c.xs | false => []
/-- Operation i and slot d are none of c's. -/
def Ch.apart (c : Ch) (i d : Nat) : Bool := !Nat.beq c.i i && !Nat.beq c.i2 i && !Nat.beq c.d d && !Nat.beq c.d2 d
def Chs.apart (C : List Ch) : Bool := C.all fun c => C.all fun c' => Nat.beq c.i c'.i || (c.apart c'.i c'.d && c.apart c'.i2 c'.d2)
theorem beq_ne {a b : Nat} (h : Nat.beq a b = false) : a ≠ b := fun e => by subst e; simp at h
theorem getD_set_off {l : Array Bool} {i j : Nat} (h : j ≠ i) : (l.setIfInBounds i true).getD j false = l.getD j false := by
  simp [Array.getD_eq_getD_getElem?, Array.getElem?_setIfInBounds_ne (Ne.symm h)]
theorem Ch.same {c : Ch} {i d : Nat} {l : Array Bool} {V : Nat → Value} {v : Value} (h : c.apart i d = true) : c.cur (l.setIfInBounds i true) (updI V d v) = c.cur l V ∧ c.num (l.setIfInBounds i true) = c.num l ∧ c.row (l.setIfInBounds i true) = c.row l := by
  simp only [Ch.apart, Bool.and_eq_true, Bool.not_eq_true'] at h
  obtain ⟨⟨⟨h1, h2⟩, h3⟩, h4⟩ := h
  unfold Ch.cur Ch.num Ch.row
  rw [getD_set_off (beq_ne h1), getD_set_off (beq_ne h2), updI_ne V v (Ne.symm (beq_ne h3)), updI_ne V v (Ne.symm (beq_ne h4))]
  exact ⟨rfl, rfl, rfl⟩
theorem Ch.off {c : Ch} {i d : Nat} {l : Array Bool} (h : c.apart i d = true) : (l.setIfInBounds i true).getD c.i2 false = l.getD c.i2 false ∧ (l.setIfInBounds i true).getD c.i false = l.getD c.i false := by
  simp only [Ch.apart, Bool.and_eq_true, Bool.not_eq_true'] at h
  obtain ⟨⟨⟨h1, h2⟩, h3⟩, h4⟩ := h
  exact ⟨getD_set_off (beq_ne h2), getD_set_off (beq_ne h1)⟩
/-- Each slice is what its operations made of it; no block belongs to two of them, none to X. -/
structure JCh (base : Nat) (C : List Ch) (X : List Nat) (l : Array Bool) (V : Nat → Value) (w : World) : Prop where
  seq : ∀ c ∈ C, l.getD c.i2 false = true → l.getD c.i false = true
  own : ∀ c ∈ C, w.ownsRow base c.el c.size (c.cur l V) (c.num l) (c.row l)
  two : ∀ c ∈ C, ∀ c' ∈ C, c.i ≠ c'.i → ∀ g, (c.cur l V).ownBlock = some g → (c'.cur l V).ownBlock ≠ some g
  out : ∀ c ∈ C, ∀ g, (c.cur l V).ownBlock = some g → g ∉ X
/-- One of c's operations: its slice is v' now. -/
theorem JCh.step {base : Nat} {C : List Ch} {X : List Nat} {l : Array Bool} {V : Nat → Value} {w w' : World} {c : Ch} {i d : Nat} {v' : Value} (h : JCh base C X l V w) (hc : c ∈ C) (hap : ∀ c' ∈ C, c'.i ≠ c.i → c'.apart i d = true) (hX : ∀ g ∈ X, g < w.heap.size) (hu : ∀ c' ∈ C, c'.i = c.i → c' = c)
    (hseq : (l.setIfInBounds i true).getD c.i2 false = true → (l.setIfInBounds i true).getD c.i false = true) (hcur : c.cur (l.setIfInBounds i true) (updI V d v') = v')
    (hown : w'.ownsRow base c.el c.size v' (c.num (l.setIfInBounds i true)) (c.row (l.setIfInBounds i true)))
    (hold : ∀ g, g < w.heap.size → (c.cur l V).ownBlock ≠ some g → w'.heap[g]? = w.heap[g]?) (hwh : v'.ownBlock = (c.cur l V).ownBlock ∨ v'.ownBlock = some w.heap.size) :
    JCh base C X (l.setIfInBounds i true) (updI V d v') w' := by
  have hb : ∀ c' ∈ C, c'.i ≠ c.i → ∀ g, (c'.cur l V).ownBlock = some g → v'.ownBlock ≠ some g := by
    intro c' hc' hne g hg he
    rcases hwh with e | e
    · exact h.two c' hc' c hc hne g hg (e ▸ he)
    · rw [e] at he
      simp only [Option.some.injEq] at he
      have := ((h.own c' hc').lt g hg).2
      omega
  refine ⟨fun c' hc' => ?_, fun c' hc' => ?_, fun c1 h1 c2 h2 hne g hg => ?_, fun c' hc' g hg => ?_⟩
  · by_cases e : c'.i = c.i
    · obtain rfl := hu c' hc' e
      exact hseq
    · rw [(Ch.off (l := l) (hap c' hc' e)).1, (Ch.off (l := l) (hap c' hc' e)).2]
      exact h.seq c' hc'
  · by_cases e : c'.i = c.i
    · obtain rfl := hu c' hc' e
      rw [hcur]; exact hown
    · obtain ⟨e1, e2, e3⟩ := Ch.same (l := l) (V := V) (v := v') (hap c' hc' e)
      rw [e1, e2, e3]
      exact ownsRow_kept (h.own c' hc') fun g hg => hold g ((h.own c' hc').lt g hg).2 (fun he => h.two c' hc' c hc e g hg he)
  · by_cases e : c1.i = c.i
    · obtain rfl := hu c1 h1 e
      rw [hcur] at hg
      rw [(Ch.same (l := l) (V := V) (v := v') (hap c2 h2 (Ne.symm hne))).1]
      exact fun he => hb c2 h2 (Ne.symm hne) g he hg
    · rw [(Ch.same (l := l) (V := V) (v := v') (hap c1 h1 e)).1] at hg
      by_cases e2 : c2.i = c.i
      · obtain rfl := hu c2 h2 e2
        rw [hcur]; exact hb c1 h1 e g hg
      · rw [(Ch.same (l := l) (V := V) (v := v') (hap c2 h2 e2)).1]
        exact h.two c1 h1 c2 h2 hne g hg
  · by_cases e : c'.i = c.i
    · obtain rfl := hu c' hc' e
      rw [hcur] at hg
      intro hx
      rcases hwh with e1 | e1
      · exact h.out c' hc' g (e1 ▸ hg) hx
      · rw [e1] at hg
        simp only [Option.some.injEq] at hg
        have := hX g hx
        omega
    · rw [(Ch.same (l := l) (V := V) (v := v') (hap c' hc' e)).1] at hg
      exact h.out c' hc' g hg
/-- Another operation, which leaves all blocks alone and makes the blocks X' (all new, or X's). -/
theorem JCh.other {base : Nat} {C : List Ch} {X X' : List Nat} {l : Array Bool} {V : Nat → Value} {w w' : World} {i d : Nat} {v' : Value} (h : JCh base C X l V w) (hap : ∀ c' ∈ C, c'.apart i d = true) (hb : ∀ g, g < w.heap.size → w'.heap[g]? = w.heap[g]?) (hX : ∀ g ∈ X', w.heap.size ≤ g) :
    JCh base C X' (l.setIfInBounds i true) (updI V d v') w' := by
  refine ⟨fun c' hc' => ?_, fun c' hc' => ?_, fun c1 h1 c2 h2 hne g hg => ?_, fun c' hc' g hg hx => ?_⟩
  · rw [(Ch.off (l := l) (hap c' hc')).1, (Ch.off (l := l) (hap c' hc')).2]
    exact h.seq c' hc'
  · obtain ⟨e1, e2, e3⟩ := Ch.same (l := l) (V := V) (v := v') (hap c' hc')
    rw [e1, e2, e3]
    exact ownsRow_kept (h.own c' hc') fun g hg => hb g ((h.own c' hc').lt g hg).2
  · rw [(Ch.same (l := l) (V := V) (v := v') (hap c1 h1)).1] at hg
    rw [(Ch.same (l := l) (V := V) (v := v') (hap c2 h2)).1]
    exact h.two c1 h1 c2 h2 hne g hg
  · rw [(Ch.same (l := l) (V := V) (v := v') (hap c' hc')).1] at hg
    have := ((h.own c' hc').lt g hg).2
    have := hX g hx
    omega
/-- The invariant: the slices of C, the blocks X of all else, and T. -/
def JJ (base : Nat) (C : List Ch) (T : List Nat → Array Bool → (Nat → Value) → World → Prop) (l : Array Bool) (V : Nat → Value) (w : World) : Prop := ∃ X, JCh base C X l V w ∧ (∀ g ∈ X, g < w.heap.size) ∧ base ≤ w.heap.size ∧ T X l V w
/-- T keeps through the operations of C. -/
structure KeepT (C : List Ch) (T : List Nat → Array Bool → (Nat → Value) → World → Prop) : Prop where
  out : ∀ X l V w w' i d v', (∃ c ∈ C, (i = c.i ∧ d = c.d) ∨ (i = c.i2 ∧ d = c.d2)) → T X l V w → (∀ g ∈ X, w'.heap[g]? = w.heap[g]?) → w.heap.size ≤ w'.heap.size → T X (l.setIfInBounds i true) (updI V d v') w'
section
variable {P : Program} {ops : Array Oper} {S : World → Prop} {D dep : List (Nat × Nat)} {a : Act} {e : List (Nat × Value)} {base : Nat} {C : List Ch} {T : List Nat → Array Bool → (Nat → Value) → World → Prop}
structure ChsOK (C : List Ch) : Prop where
  ap : ∀ c ∈ C, ∀ c' ∈ C, c'.i ≠ c.i → c'.apart c.i c.d = true ∧ c'.apart c.i2 c.d2 = true
  eq : ∀ c ∈ C, ∀ c' ∈ C, c'.i = c.i → c' = c
  ne : ∀ c ∈ C, c.i ≠ c.i2 ∧ c.d ≠ c.d2
end
section
variable {P : Program} {ops : Array Oper} {Q : Exit → Act → World → Prop} {S : World → Prop}
variable {r : List (Nat × Bool)} {a : Act} {e : List (Nat × Value)} {w : World} {i d : Nat} {g : Option (Nat × Bool)} {v : Value}
end
section
variable {P : Program} {ops : Array Oper} {S : World → Prop} {D dep : List (Nat × Nat)} {a : Act} {e : List (Nat × Value)} {base : Nat} {C : List Ch} {T : List Nat → Array Bool → (Nat → Value) → World → Prop}
end
end Go.Proofs.Ytpekdmocgjjhnaa

/- The reference's copy of a vector: the orders of its region. -/
namespace Go.Proofs.Ytpekdmocgjjhnaa
set_option maxRecDepth 100000
open Go.RowKit
set_option linter.unusedVariables false
noncomputable def cpyOps : Array Oper := opsOf Try.f26 1
def cpyR : List (Nat × Bool) := [(0, true), (1, true), (3, true), (4, true), (6, true), (7, true), (10, true), (11, true), (14, true), (15, true), (18, true), (19, true), (21, true), (22, true), (23, true), (24, true)]
def cpyD : List (Nat × Nat) := [(2, 5), (5, 8), (8, 11), (9, 12), (12, 15), (13, 16), (16, 19), (17, 20), (20, 23)]
def cpyDep : List (Nat × Nat) := [(5, 2), (12, 9), (16, 13), (20, 17)]
def cpyL0 : Array Bool := behind cpyR (Array.replicate 27 false)
def cpyL1 : Array Bool := behind (cpyD.map fun p => (p.1, false)) cpyL0
def cpyY : List (List (Array Bool)) := [[#[true, true, true, true, true, false, true, true, false, false, true, true, false, false, true, true, false, false, true, true, false, true, true, true, true, false, false], #[true, true, false, true, true, false, true, true, false, true, true, true, false, false, true, true, false, false, true, true, false, true, true, true, true, false, false], #[true, true, false, true, true, false, true, true, false, false, true, true, false, true, true, true, false, false, true, true, false, true, true, true, true, false, false], #[true, true, false, true, true, false, true, true, false, false, true, true, false, false, true, true, false, true, true, true, false, true, true, true, true, false, false]],
  [#[true, true, true, true, true, false, true, true, false, true, true, true, false, false, true, true, false, false, true, true, false, true, true, true, true, false, false], #[true, true, true, true, true, false, true, true, false, false, true, true, false, true, true, true, false, false, true, true, false, true, true, true, true, false, false], #[true, true, true, true, true, false, true, true, false, false, true, true, false, false, true, true, false, true, true, true, false, true, true, true, true, false, false], #[true, true, true, true, true, true, true, true, false, false, true, true, false, false, true, true, false, false, true, true, false, true, true, true, true, false, false], #[true, true, false, true, true, false, true, true, false, true, true, true, false, true, true, true, false, false, true, true, false, true, true, true, true, false, false], #[true, true, false, true, true, false, true, true, false, true, true, true, false, false, true, true, false, true, true, true, false, true, true, true, true, false, false], #[true, true, false, true, true, false, true, true, false, false, true, true, false, true, true, true, false, true, true, true, false, true, true, true, true, false, false]],
  [#[true, true, true, true, true, false, true, true, false, true, true, true, false, true, true, true, false, false, true, true, false, true, true, true, true, false, false], #[true, true, true, true, true, false, true, true, false, true, true, true, false, false, true, true, false, true, true, true, false, true, true, true, true, false, false], #[true, true, true, true, true, true, true, true, false, true, true, true, false, false, true, true, false, false, true, true, false, true, true, true, true, false, false], #[true, true, true, true, true, false, true, true, false, false, true, true, false, true, true, true, false, true, true, true, false, true, true, true, true, false, false], #[true, true, true, true, true, true, true, true, false, false, true, true, false, true, true, true, false, false, true, true, false, true, true, true, true, false, false], #[true, true, true, true, true, true, true, true, false, false, true, true, false, false, true, true, false, true, true, true, false, true, true, true, true, false, false], #[true, true, true, true, true, true, true, true, true, false, true, true, false, false, true, true, false, false, true, true, false, true, true, true, true, false, false], #[true, true, false, true, true, false, true, true, false, true, true, true, false, true, true, true, false, true, true, true, false, true, true, true, true, false, false]],
  [#[true, true, true, true, true, false, true, true, false, true, true, true, false, true, true, true, false, true, true, true, false, true, true, true, true, false, false], #[true, true, true, true, true, true, true, true, false, true, true, true, false, true, true, true, false, false, true, true, false, true, true, true, true, false, false], #[true, true, true, true, true, true, true, true, false, true, true, true, false, false, true, true, false, true, true, true, false, true, true, true, true, false, false], #[true, true, true, true, true, true, true, true, true, true, true, true, false, false, true, true, false, false, true, true, false, true, true, true, true, false, false], #[true, true, true, true, true, true, true, true, false, false, true, true, false, true, true, true, false, true, true, true, false, true, true, true, true, false, false], #[true, true, true, true, true, true, true, true, true, false, true, true, false, true, true, true, false, false, true, true, false, true, true, true, true, false, false], #[true, true, true, true, true, true, true, true, true, false, true, true, false, false, true, true, false, true, true, true, false, true, true, true, true, false, false]],
  [#[true, true, true, true, true, true, true, true, false, true, true, true, false, true, true, true, false, true, true, true, false, true, true, true, true, false, false], #[true, true, true, true, true, true, true, true, true, true, true, true, false, true, true, true, false, false, true, true, false, true, true, true, true, false, false], #[true, true, true, true, true, true, true, true, true, true, true, true, false, false, true, true, false, true, true, true, false, true, true, true, true, false, false], #[true, true, true, true, true, true, true, true, true, true, true, true, true, false, true, true, false, false, true, true, false, true, true, true, true, false, false], #[true, true, true, true, true, true, true, true, true, false, true, true, false, true, true, true, false, true, true, true, false, true, true, true, true, false, false]],
  [#[true, true, true, true, true, true, true, true, true, true, true, true, false, true, true, true, false, true, true, true, false, true, true, true, true, false, false], #[true, true, true, true, true, true, true, true, true, true, true, true, true, true, true, true, false, false, true, true, false, true, true, true, true, false, false], #[true, true, true, true, true, true, true, true, true, true, true, true, true, false, true, true, false, true, true, true, false, true, true, true, true, false, false]],
  [#[true, true, true, true, true, true, true, true, true, true, true, true, true, true, true, true, false, true, true, true, false, true, true, true, true, false, false], #[true, true, true, true, true, true, true, true, true, true, true, true, true, true, true, true, true, false, true, true, false, true, true, true, true, false, false]],
  [#[true, true, true, true, true, true, true, true, true, true, true, true, true, true, true, true, true, true, true, true, false, true, true, true, true, false, false]],
  [#[true, true, true, true, true, true, true, true, true, true, true, true, true, true, true, true, true, true, true, true, true, true, true, true, true, false, false]]]
end Go.Proofs.Ytpekdmocgjjhnaa

/- The reference's copy of a vector: its parts' copies given. -/
namespace Go.Proofs.Ytpekdmocgjjhnaa
set_option maxRecDepth 100000
open Go.RowKit
set_option linter.unusedVariables false
def cpyC (items : List It) (names cls levels : List ByteArray) : List Ch := [⟨2, 5, 5, 8, 63, 3, items.length, itCells items⟩, ⟨9, 12, 12, 15, 9, 1, names.length, names.map Value.string⟩, ⟨13, 16, 16, 19, 9, 1, cls.length, cls.map Value.string⟩, ⟨17, 20, 20, 23, 9, 1, levels.length, levels.map Value.string⟩]
/-- The copies of the parts, once they are made. -/
def cpyT (base d : Nat) (parts : List Vec) (X : List Nat) (l : Array Bool) (V : Nat → Value) (w : World) : Prop := (l.getD 8 false = false → X = []) ∧ (l.getD 8 false = true → OwnParts w d (V 11) parts X ∧ X.Nodup ∧ ∀ g ∈ X, base ≤ g)
theorem OwnIts.blk {w : World} {a : Option Addr} {l : List It} {F : List Nat} (h : OwnIts w a l F) (n c : Nat) : ∀ b ∈ F, (Value.slice a n c).ownBlock = some b := by
  intro b hb
  rcases h with ⟨_, rfl⟩ | ⟨b', C, rfl, rfl, _⟩
  · cases hb
  · obtain rfl := List.mem_singleton.1 hb; rfl
theorem OwnTxs.blk {w : World} {a : Option Addr} {l : List ByteArray} {F : List Nat} (h : OwnTxs w a l F) (n c : Nat) : ∀ b ∈ F, (Value.slice a n c).ownBlock = some b := by
  intro b hb
  rcases h with ⟨_, rfl⟩ | ⟨b', C, rfl, rfl, _⟩
  · cases hb
  · obtain rfl := List.mem_singleton.1 hb; rfl
theorem txs_of_row {w : World} {B : Nat} {v : Value} {l : List ByteArray} (h : w.ownsRow B 9 1 v l.length (l.map Value.string)) : ∃ a c F, v = .slice a l.length c ∧ OwnTxs w a l F ∧ F.Nodup ∧ (∀ b ∈ F, B ≤ b ∧ b < w.heap.size) ∧ l.length ≤ c := by
  by_cases hpos : 0 < l.length
  · obtain ⟨g, c, rfl, ho, h1, h2, h3⟩ := own_of_row hpos h
    exact ⟨_, c, [g], rfl, ho, by simp, fun b hb => by obtain rfl := List.mem_singleton.1 hb; exact ⟨h1, h2⟩, h3⟩
  · obtain rfl : l = [] := List.eq_nil_of_length_eq_zero (by omega)
    obtain ⟨_, ⟨e, _⟩ | ⟨g, k, _, e, _⟩⟩ := h
    · exact ⟨none, 0, [], e, .inl ⟨rfl, rfl⟩, List.nodup_nil, (fun _ h => by cases h), Nat.le_refl _⟩
    · exact ⟨_, k, [], e, .inl ⟨rfl, rfl⟩, List.nodup_nil, (fun _ h => by cases h), Nat.zero_le _⟩
theorem Ch.none {c : Ch} {l : Array Bool} {V : Nat → Value} (h : l.getD c.i2 false = false) (h2 : l.getD c.i false = false) : c.cur l V = .slice Option.none 0 0 ∧ c.num l = 0 ∧ c.row l = [] := by
  unfold Ch.cur Ch.num Ch.row
  rw [h, h2]
  exact ⟨rfl, rfl, rfl⟩
/-- All parts, however deep, are vectors. -/
def AllIs : Nat → Vec → Prop
  | 0, _ => True
  | d + 1, v => ∀ i, i < (partsV v).length → IsV 3 ((partsV v).getD i noV) ∧ AllIs d ((partsV v).getD i noV)
structure SCV (d : Nat) : Prop where
  out : ∀ (v : Vec) (val : Value) (lo hi : Nat) (w : World), VecAt lo hi w d v val → hi ≤ w.heap.size → Small d v → AllIs d v → (partsV v).length ≤ 41 → Calls Try.prog 26 #[val] w (ResV d v w)
structure SCP (d : Nat) : Prop where
  out : ∀ (parts : List Vec) (a : Option Addr) (c lo hi : Nat) (w : World), VecsAt lo hi w d a parts → hi ≤ w.heap.size → (∀ i, i < parts.length → Small d (parts.getD i noV)) → (∀ i, i < parts.length → IsV 3 (parts.getD i noV) ∧ AllIs d (parts.getD i noV)) → parts.length ≤ 41 → Calls Try.prog 47 #[.slice a parts.length c] w (ResP d parts w)
end Go.Proofs.Ytpekdmocgjjhnaa

/- A vector's five slices while a call makes them. -/
namespace Go.Proofs.Ytpekdmocgjjhnaa
open Go.RowKit
set_option maxRecDepth 100000
set_option linter.unusedVariables false

/-- A row of vectors of the call's own, with the blocks X of the vectors. -/
structure RowX (lo : Nat) (w : World) (d : Nat) (parts : List Vec) (v : Value) (X : List Nat) : Prop where
  ex : ∃ (vals : List Value) (Fs : List (List Nat)), vals.length = parts.length ∧ Fs.length = parts.length ∧ w.ownsRow lo 31 8 v parts.length (vals.flatMap cl8) ∧
    (∀ i, i < parts.length → OwnVec w d (parts.getD i noV) (vals.getD i undef) (Fs.getD i [])) ∧ Fs.flatten = X
theorem RowX.row {lo : Nat} {w : World} {d : Nat} {parts : List Vec} {v : Value} {X : List Nat} (h : RowX lo w d parts v X) : ∃ xs, w.ownsRow lo 31 8 v parts.length xs := by
  obtain ⟨vals, Fs, _, _, hr, _⟩ := h.ex
  exact ⟨_, hr⟩
theorem RowX.nil (lo : Nat) (w : World) (d : Nat) : RowX lo w d [] (.slice none 0 0) [] :=
  ⟨[], [], rfl, rfl, ⟨rfl, .inl ⟨rfl, rfl⟩⟩, fun i h => absurd h (Nat.not_lt_zero _), rfl⟩
theorem RowX.kept {lo : Nat} {w w' : World} {d : Nat} {parts : List Vec} {v : Value} {X : List Nat} (h : RowX lo w d parts v X) (hX : ∀ g ∈ X, w'.heap[g]? = w.heap[g]?) (hv : ∀ g, v.ownBlock = some g → w'.heap[g]? = w.heap[g]?) : RowX lo w' d parts v X := by
  obtain ⟨vals, Fs, h1, h2, h3, h4, rfl⟩ := h.ex
  exact ⟨vals, Fs, h1, h2, ownsRow_kept h3 hv, fun i hi => (h4 i hi).kept _ _ _ _ (fun b hb => hX b (mem_flat (by omega) hb)), rfl⟩
theorem RowX.own {lo : Nat} {w : World} {d : Nat} {parts : List Vec} {v : Value} {X : List Nat} (h : RowX lo w d parts v X) : ∃ ap cp F, v = .slice ap parts.length cp ∧ parts.length ≤ cp ∧
    ((parts = [] ∧ F = []) ∨ ∃ b C, ∃ Fs : List (List Nat), F = b :: Fs.flatten ∧ Fs.length = parts.length ∧ ap = some ⟨b, 0, none⟩ ∧ w.heap[b]? = some (.cells C 31 (0, 0)) ∧ parts.length * 8 ≤ C.size ∧
      ∀ i, i < parts.length → ∃ val, OwnVec w d (parts.getD i noV) val (Fs.getD i []) ∧ Eight C i val) ∧ (∀ g ∈ F, v.ownBlock = some g ∨ g ∈ X) ∧ (X.Nodup → (∀ g, v.ownBlock = some g → g ∉ X) → F.Nodup) := by
  obtain ⟨vals, Fs, h1, h2, ⟨hl, h3⟩, h4, rfl⟩ := h.ex
  rcases h3 with ⟨rfl, h0⟩ | ⟨g, cap, cur, rfl, hB, hg, hc, _, hs, ht⟩
  · have hp : parts = [] := List.eq_nil_of_length_eq_zero h0
    subst hp
    exact ⟨none, 0, [], rfl, Nat.le_refl _, .inl ⟨rfl, rfl⟩, (fun _ h => by cases h), fun _ _ => List.nodup_nil⟩
  · refine ⟨_, cap, g :: Fs.flatten, rfl, hc, .inr ⟨g, cur, Fs, rfl, h2, rfl, hg, by omega, fun i hi => ⟨_, h4 i hi, ?_⟩⟩, fun b hb => ?_, fun hn ho => List.nodup_cons.2 ⟨ho g rfl, hn⟩⟩
    · obtain ⟨c0, c1, c2, c3, c4, c5, c6, c7, e, m0, m1, m2, m3, m4, m5, m6, m7⟩ := flat8_at vals (RowV.is8 h1 h4) i (by omega)
      have key : ∀ j, j < parts.length * 8 → cur[j]? = (vals.flatMap cl8)[j]? := fun j hj => by
        rw [← ht, List.getElem?_take_of_lt hj, Array.getElem?_toList]
      refine ⟨c0, c1, c2, c3, c4, c5, c6, c7, e, ?_, ?_, ?_, ?_, ?_, ?_, ?_, ?_⟩
      · rw [key _ (by omega)]; exact m0
      · rw [key _ (by omega)]; exact m1
      · rw [key _ (by omega)]; exact m2
      · rw [key _ (by omega)]; exact m3
      · rw [key _ (by omega)]; exact m4
      · rw [key _ (by omega)]; exact m5
      · rw [key _ (by omega)]; exact m6
      · rw [key _ (by omega)]; exact m7
    · rcases List.mem_cons.1 hb with rfl | hb
      · exact .inl rfl
      · exact .inr hb
/-- No block is both's. -/
def Apart2 (a b : Value) : Prop := ∀ g, a.ownBlock = some g → b.ownBlock ≠ some g
def Off (v : Value) (X : List Nat) : Prop := ∀ g, v.ownBlock = some g → g ∉ X
def Below1 (v : Value) (w : World) : Prop := ∀ g, v.ownBlock = some g → g < w.heap.size
/-- v' took v's place: the same block, or a new one. -/
def Moved (w : World) (v v' : Value) : Prop := v'.ownBlock = v.ownBlock ∨ ∃ g, v'.ownBlock = some g ∧ w.heap.size ≤ g
theorem Apart2.symm {a b : Value} (h : Apart2 a b) : Apart2 b a := fun g hb ha => h g ha hb
theorem apart_nil (b : Value) : Apart2 (.slice none 0 0) b := fun g h => by cases h
theorem row_below {lo : Nat} {w : World} {el : TypeId} {size n : Nat} {v : Value} {xs : List Value} (h : w.ownsRow lo el size v n xs) : Below1 v w := fun g hg => (h.lt g hg).2
/-- The five slices of a vector that a call makes, each in blocks of its own, at or above lo. -/
structure Und (lo : Nat) (w : World) (d : Nat) (items : List It) (parts : List Vec) (names cls lev : List ByteArray) (vi vp vn vc vl : Value) (X : List Nat) : Prop where
  i : w.ownsRow lo 63 3 vi items.length (itCells items)
  p : RowX lo w d parts vp X
  n : w.ownsRow lo 9 1 vn names.length (names.map Value.string)
  c : w.ownsRow lo 9 1 vc cls.length (cls.map Value.string)
  l : w.ownsRow lo 9 1 vl lev.length (lev.map Value.string)
  nd : X.Nodup
  rg : ∀ g ∈ X, lo ≤ g ∧ g < w.heap.size
  two : (Apart2 vi vp ∧ Apart2 vi vn ∧ Apart2 vi vc ∧ Apart2 vi vl) ∧ (Apart2 vp vn ∧ Apart2 vp vc ∧ Apart2 vp vl) ∧ (Apart2 vn vc ∧ Apart2 vn vl) ∧ Apart2 vc vl
  off : Off vi X ∧ Off vp X ∧ Off vn X ∧ Off vc X ∧ Off vl X
theorem Und.start (lo : Nat) (w : World) (d : Nat) : Und lo w d [] [] [] [] [] (.slice none 0 0) (.slice none 0 0) (.slice none 0 0) (.slice none 0 0) (.slice none 0 0) [] :=
  ⟨⟨rfl, .inl ⟨rfl, rfl⟩⟩, RowX.nil _ _ _, ⟨rfl, .inl ⟨rfl, rfl⟩⟩, ⟨rfl, .inl ⟨rfl, rfl⟩⟩, ⟨rfl, .inl ⟨rfl, rfl⟩⟩, List.nodup_nil, (fun _ h => by cases h), ⟨⟨apart_nil _, apart_nil _, apart_nil _, apart_nil _⟩, ⟨apart_nil _, apart_nil _, apart_nil _⟩, ⟨apart_nil _, apart_nil _⟩, apart_nil _⟩, ⟨(fun _ _ h => by cases h), (fun _ _ h => by cases h), (fun _ _ h => by cases h), (fun _ _ h => by cases h), (fun _ _ h => by cases h)⟩⟩
theorem Und.pb {lo : Nat} {w : World} {d : Nat} {items : List It} {parts : List Vec} {names cls lev : List ByteArray} {vi vp vn vc vl : Value} {X : List Nat} (h : Und lo w d items parts names cls lev vi vp vn vc vl X) : Below1 vp w ∧ ∀ g, vp.ownBlock = some g → lo ≤ g := by
  obtain ⟨xs, hr⟩ := h.p.row
  exact ⟨row_below hr, fun g hg => (hr.lt g hg).1⟩
theorem Und.kept {lo : Nat} {w : World} {d : Nat} {items : List It} {parts : List Vec} {names cls lev : List ByteArray} {vi vp vn vc vl : Value} {X : List Nat} {w' : World} (h : Und lo w d items parts names cls lev vi vp vn vc vl X) (hk : ∀ g, lo ≤ g → g < w.heap.size → w'.heap[g]? = w.heap[g]?) (hs : w.heap.size ≤ w'.heap.size) : Und lo w' d items parts names cls lev vi vp vn vc vl X :=
  ⟨ownsRow_kept h.i fun g hg => hk g (h.i.lt g hg).1 (h.i.lt g hg).2, h.p.kept (fun g hg => hk g (h.rg g hg).1 (h.rg g hg).2) (fun g hg => hk g (h.pb.2 g hg) (h.pb.1 g hg)), ownsRow_kept h.n fun g hg => hk g (h.n.lt g hg).1 (h.n.lt g hg).2, ownsRow_kept h.c fun g hg => hk g (h.c.lt g hg).1 (h.c.lt g hg).2, ownsRow_kept h.l fun g hg => hk g (h.l.lt g hg).1 (h.l.lt g hg).2, h.nd, fun g hg => ⟨(h.rg g hg).1, Nat.lt_of_lt_of_le (h.rg g hg).2 hs⟩, h.two, h.off⟩
theorem Und.below {lo : Nat} {w : World} {d : Nat} {items : List It} {parts : List Vec} {names cls lev : List ByteArray} {vi vp vn vc vl : Value} {X : List Nat} {w' : World} (h : Und lo w d items parts names cls lev vi vp vn vc vl X) (hb : Below w.heap.size w w') : Und lo w' d items parts names cls lev vi vp vn vc vl X := h.kept (fun g _ hg => hb.block g hg) hb.size
/-- A store into a block below lo. -/
theorem Und.put {lo : Nat} {w : World} {d : Nat} {items : List It} {parts : List Vec} {names cls lev : List ByteArray} {vi vp vn vc vl : Value} {X : List Nat} (h : Und lo w d items parts names cls lev vi vp vn vc vl X) {b j : Nat} {u : Value} (hb : b < lo) : Und lo (w.setCell ⟨b, j, none⟩ u) d items parts names cls lev vi vp vn vc vl X :=
  h.kept (fun g hg _ => Below.heap_setCell _ _ _ _ (by show g ≠ b; omega)) (by simp)
theorem Und.own {lo : Nat} {w : World} {d : Nat} {items : List It} {parts : List Vec} {names cls lev : List ByteArray} {vi vp vn vc vl : Value} {X : List Nat} (h : Und lo w d items parts names cls lev vi vp vn vc vl X) (k : Int) : Own (d + 1) (.mk k items parts names cls lev 0 0) (.agg #[.int .i64 k, vi, vp, vn, vc, vl, .int .i64 0, .int .i64 0]) lo w.heap.size w := by
  have off := h.off
  have two := h.two
  have pb := h.pb
  have rg := h.rg
  obtain ⟨ai, ci, Fi, rfl, oi, ni, ri, qi⟩ := own_of_its h.i
  obtain ⟨ap, cp, Fp, rfl, qp, op, dp, np⟩ := h.p.own
  obtain ⟨an, cn, Fn, rfl, on, nn, rn, qn⟩ := txs_of_row h.n
  obtain ⟨ac, cc, Fc, rfl, oc, nc, rc, qc⟩ := txs_of_row h.c
  obtain ⟨al, cl, Fl, rfl, ol, nl, rl, ql⟩ := txs_of_row h.l
  have di := oi.blk items.length ci
  have dn := on.blk names.length cn
  have dc := oc.blk cls.length cc
  have dl := ol.blk lev.length cl
  refine ⟨Fi ++ (Fp ++ (Fn ++ (Fc ++ Fl))), ?_, ?_, ?_⟩
  · unfold OwnVec
    exact ⟨ai, ci, ap, cp, an, cn, ac, cc, al, cl, Fi, Fp, Fn, Fc, Fl, rfl, rfl, ⟨qi, qp, qn, qc, ql⟩, oi, on, oc, ol, op⟩
  · rw [List.nodup_append, List.nodup_append, List.nodup_append, List.nodup_append]
    refine ⟨ni, ⟨np h.nd off.2.1, ⟨nn, ⟨nc, nl, fun x hx y hy e => two.2.2.2 x (dc x hx) (e ▸ dl y hy)⟩, fun x hx y hy e => ?_⟩, fun x hx y hy e => ?_⟩, fun x hx y hy e => ?_⟩
    · rcases List.mem_append.1 hy with hy | hy
      · exact two.2.2.1.1 x (dn x hx) (e ▸ dc y hy)
      · exact two.2.2.1.2 x (dn x hx) (e ▸ dl y hy)
    · subst e
      rcases dp x hx with hx | hx
      · rcases List.mem_append.1 hy with hy | hy
        · exact two.2.1.1 x hx (dn x hy)
        · rcases List.mem_append.1 hy with hy | hy
          · exact two.2.1.2.1 x hx (dc x hy)
          · exact two.2.1.2.2 x hx (dl x hy)
      · rcases List.mem_append.1 hy with hy | hy
        · exact off.2.2.1 x (dn x hy) hx
        · rcases List.mem_append.1 hy with hy | hy
          · exact off.2.2.2.1 x (dc x hy) hx
          · exact off.2.2.2.2 x (dl x hy) hx
    · subst e
      rcases List.mem_append.1 hy with hy | hy
      · rcases dp x hy with hy | hy
        · exact two.1.1 x (di x hx) hy
        · exact off.1 x (di x hx) hy
      · rcases List.mem_append.1 hy with hy | hy
        · exact two.1.2.1 x (di x hx) (dn x hy)
        · rcases List.mem_append.1 hy with hy | hy
          · exact two.1.2.2.1 x (di x hx) (dc x hy)
          · exact two.1.2.2.2 x (di x hx) (dl x hy)
  · intro g hg
    rcases List.mem_append.1 hg with hg | hg
    · exact ri g hg
    · rcases List.mem_append.1 hg with hg | hg
      · rcases dp g hg with hg | hg
        · exact ⟨pb.2 g hg, pb.1 g hg⟩
        · exact rg g hg
      · rcases List.mem_append.1 hg with hg | hg
        · exact rn g hg
        · rcases List.mem_append.1 hg with hg | hg
          · exact rc g hg
          · exact rl g hg
/-- A block that is none of the five slices'. -/
def UFree (b : Nat) (vi vp vn vc vl : Value) (X : List Nat) : Prop := vi.ownBlock ≠ some b ∧ vp.ownBlock ≠ some b ∧ vn.ownBlock ≠ some b ∧ vc.ownBlock ≠ some b ∧ vl.ownBlock ≠ some b ∧ b ∉ X
theorem Und.free {lo : Nat} {w : World} {d : Nat} {items : List It} {parts : List Vec} {names cls lev : List ByteArray} {vi vp vn vc vl : Value} {X : List Nat} (h : Und lo w d items parts names cls lev vi vp vn vc vl X) {b : Nat} (hb : w.heap.size ≤ b) : UFree b vi vp vn vc vl X :=
  ⟨fun e => by have := (h.i.lt b e).2; omega, fun e => by have := h.pb.1 b e; omega, fun e => by have := (h.n.lt b e).2; omega, fun e => by have := (h.c.lt b e).2; omega, fun e => by have := (h.l.lt b e).2; omega, fun e => by have := (h.rg b e).2; omega⟩
/-- All but one block are kept. -/
theorem Und.but {lo : Nat} {w : World} {d : Nat} {items : List It} {parts : List Vec} {names cls lev : List ByteArray} {vi vp vn vc vl : Value} {X : List Nat} {w' : World} {b : Nat} (h : Und lo w d items parts names cls lev vi vp vn vc vl X) (hf : UFree b vi vp vn vc vl X) (hk : ∀ g, g < w.heap.size → g ≠ b → w'.heap[g]? = w.heap[g]?) (hs : w.heap.size ≤ w'.heap.size) : Und lo w' d items parts names cls lev vi vp vn vc vl X :=
  ⟨ownsRow_kept h.i fun g hg => hk g (h.i.lt g hg).2 (fun e => hf.1 (e ▸ hg)), h.p.kept (fun g hg => hk g (h.rg g hg).2 (fun e => hf.2.2.2.2.2 (e ▸ hg))) (fun g hg => hk g (h.pb.1 g hg) (fun e => hf.2.1 (e ▸ hg))), ownsRow_kept h.n fun g hg => hk g (h.n.lt g hg).2 (fun e => hf.2.2.1 (e ▸ hg)), ownsRow_kept h.c fun g hg => hk g (h.c.lt g hg).2 (fun e => hf.2.2.2.1 (e ▸ hg)), ownsRow_kept h.l fun g hg => hk g (h.l.lt g hg).2 (fun e => hf.2.2.2.2.1 (e ▸ hg)), h.nd, fun g hg => ⟨(h.rg g hg).1, Nat.lt_of_lt_of_le (h.rg g hg).2 hs⟩, h.two, h.off⟩
theorem row_lo {lo base : Nat} {w : World} {el : TypeId} {size n : Nat} {v : Value} {xs : List Value} (h : w.ownsRow base el size v n xs) (hl : lo ≤ base) : w.ownsRow lo el size v n xs := by
  obtain ⟨h1, h2⟩ := h
  refine ⟨h1, h2.imp id ?_⟩
  rintro ⟨g, cap, cur, e, hB, r⟩
  exact ⟨g, cap, cur, e, Nat.le_trans hl hB, r⟩
theorem Und.wide {lo : Nat} {w : World} {d : Nat} {items : List It} {parts : List Vec} {names cls lev : List ByteArray} {vi vp vn vc vl : Value} {X : List Nat} {lo' : Nat} (h : Und lo w d items parts names cls lev vi vp vn vc vl X) (hl : lo' ≤ lo) : Und lo' w d items parts names cls lev vi vp vn vc vl X := by
  obtain ⟨vals, Fs, h1, h2, h3, h4, h5⟩ := h.p.ex
  exact ⟨row_lo h.i hl, ⟨vals, Fs, h1, h2, row_lo h3 hl, h4, h5⟩, row_lo h.n hl, row_lo h.c hl, row_lo h.l hl, h.nd, fun g hg => ⟨Nat.le_trans hl (h.rg g hg).1, (h.rg g hg).2⟩, h.two, h.off⟩
end Go.Proofs.Ytpekdmocgjjhnaa

/- The elements of a vector as the parts of a list. -/
namespace Go.Proofs.Ytpekdmocgjjhnaa
open Go.RowKit
set_option maxRecDepth 100000
set_option linter.unusedVariables false

/-- The elements of a vector as vectors. -/
def elems (v : Vec) : List Vec := match v with
  | .mk k items parts names cls levels code env => if k = 5 then [.mk k items parts names cls levels code env] else if k = 4 then parts else items.map (fun x => vecOf k [x])
/-- What elementsOf answers. -/
def ElmAns (v : Vec) (w : World) (e : Ending) (w' : World) : Prop := (∃ a c D, e = .returned (.slice a (elems v).length c) ∧ VecsAt w.heap.size w'.heap.size w' D a (elems v) ∧ ∀ i, i < (elems v).length → Small D ((elems v).getD i noV)) ∧ Below w.heap.size w w'
end Go.Proofs.Ytpekdmocgjjhnaa

/- MissingIn of the program. -/
namespace Go.Proofs.Ytpekdmocgjjhnaa
open Go.RowKit
set_option maxRecDepth 100000
set_option linter.unusedVariables false

def itemsV (v : Vec) : List It := match v with | .mk _ items _ _ _ _ _ _ => items
def namesV (v : Vec) : List ByteArray := match v with | .mk _ _ _ names _ _ _ _ => names
def OneMiss (p : Vec) : Prop := (itemsV p).length = 1 ∧ ((itemsV p).getD 0 noI).d = 0
noncomputable def missI (p : Vec) : Int := match bB (OneMiss p) with | true => 1 | false => 0
/-- An element whose single item, if missing, is nothing else. -/
def GoodE (p : Vec) : Prop := (itemsV p).length = 1 → ((itemsV p).getD 0 noI).d = 0 → (itemsV p).getD 0 noI = noI
/-- What MissingIn answers. -/
noncomputable def missV (v : Vec) : Vec := match bB (ValidV v) with | true => mkN 1 (itF (fun i => logI (missI ((elems v).getD i noV))) (elems v).length) (namesV v) | false => noV
noncomputable def missS (v : Vec) : ByteArray := match bB (ValidV v) with | true => ⟨#[]⟩ | false => badB
end Go.Proofs.Ytpekdmocgjjhnaa

/- NotVector of the reference. -/
namespace Go.Proofs.Ytpekdmocgjjhnaa
open Go.RowKit
set_option maxRecDepth 100000
set_option linter.unusedVariables false

/-- The ints while they are turned over, one by one. -/
def TurnL (w wr : World) (sa : Option Addr) (n k : Nat) (f : Nat → Int) : Prop :=
  n = 0 ∨ ∃ b C, sa = some ⟨b, 0, none⟩ ∧ w.heap.size + 2 ≤ b ∧ wr.heap[b]? = some (.cells C 3 (0, 0)) ∧ n ≤ C.size ∧ ∀ i, i < n → C[i]? = some (.int .i64 (if i < k then nL (f i) else f i))
theorem TurnL.start {w wr : World} {B : Nat} {sa : Option Addr} {n c : Nat} {f : Nat → Int} (h : wr.ownsRow B 3 1 (.slice sa n c) n (intsF f n)) (hB : w.heap.size + 2 ≤ B) : TurnL w wr sa n 0 f := by
  obtain ⟨_, h⟩ := h
  rcases h with ⟨e, h0⟩ | ⟨g, cap, cur, e, hg, hb, hc, _, hs, ht⟩
  · exact .inl h0
  · simp only [Value.slice.injEq] at e
    obtain ⟨rfl, _, rfl⟩ := e
    refine .inr ⟨g, cur, rfl, by omega, hb, by omega, fun i hi => ?_⟩
    have h1 : (cur.toList.take (n * 1))[i]? = (intsF f n)[i]? := by rw [ht]
    rw [List.getElem?_take_of_lt (by omega), Array.getElem?_toList] at h1
    rw [h1, if_neg (Nat.not_lt_zero i)]; unfold intsF; simp [hi]
theorem TurnL.ints {w wr : World} {sa : Option Addr} {n : Nat} {f : Nat → Int} (h : TurnL w wr sa n n f) : IntsAt wr.heap.size wr sa n (fun i => nL (f i)) := by
  rcases h with rfl | ⟨b, C, rfl, _, hb, hn, r⟩
  · exact fun i hi => absurd hi (Nat.not_lt_zero _)
  · intro i hi
    refine ⟨b, 0, rfl, (Array.getElem?_eq_some_iff.1 hb).1, ?_⟩
    rw [Nat.zero_add]
    have := r i hi
    rw [if_pos hi] at this
    exact cellOf hb this
end Go.Proofs.Ytpekdmocgjjhnaa

/- Lengths and names of a recycled result, in the reference. -/
namespace Go.Proofs.Ytpekdmocgjjhnaa
open Go.RowKit
set_option maxRecDepth 100000
set_option linter.unusedVariables false

def namesL (l0 l1 n : Nat) (names0 names1 : List ByteArray) : List ByteArray := if l0 = n ∧ 0 < names0.length then names0 else if l1 = n then names1 else []
def sizeL (m n : Nat) : Int := if m = 0 ∨ n = 0 then 0 else if max m n % min m n ≠ 0 then -1 else (max m n : Nat)
end Go.Proofs.Ytpekdmocgjjhnaa

/- Lengths and names of a recycled result, in the program. -/
namespace Go.Proofs.Ytpekdmocgjjhnaa
open Go.RowKit
set_option maxRecDepth 100000
set_option linter.unusedVariables false

def recN (m n : Nat) : Nat := if m = 0 ∨ n = 0 then 0 else max m n
theorem CopyTx.low {base base' : Nat} {l : List ByteArray} {v : Value} {w : World} (h : CopyTx base l v w) (hb : base' ≤ base) : CopyTx base' l v w := by
  obtain ⟨sa, sc, F, e, h1, h2, h3, h4⟩ := h
  exact ⟨sa, sc, F, e, h1, h2, fun b hb' => by have := h3 b hb'; omega, h4⟩
/-- The names of a recycled result, as the program finds them. -/
def namesR (N : Nat) (names0 names1 : List ByteArray) : List ByteArray := if N = names0.length then names0 else if N = names1.length then names1 else []
end Go.Proofs.Ytpekdmocgjjhnaa

/- recycleItems of the program. -/
namespace Go.Proofs.Ytpekdmocgjjhnaa
open Go.RowKit
set_option maxRecDepth 100000
set_option linter.unusedVariables false

theorem ItR.form {w wr : World} {l : List It} {v : Value} (h : ItR w wr l v) : ∃ s n c, v = .slice s n c := by
  obtain ⟨_, h | ⟨g, cap, cur, e, _⟩⟩ := h.row
  · exact ⟨_, _, _, h.1⟩
  · exact ⟨_, _, _, e⟩
end Go.Proofs.Ytpekdmocgjjhnaa

/- Summaries as data: the elements that are taken, folds, the answers. -/
namespace Go.Proofs.Ytpekdmocgjjhnaa
open Go.RowKit
set_option maxRecDepth 100000
set_option linter.unusedVariables false

/-- "non-numeric argument", "no elements" -/
def nonNumB : ByteArray := ⟨#[110, 111, 110, 45, 110, 117, 109, 101, 114, 105, 99, 32, 97, 114, 103, 117, 109, 101, 110, 116]⟩
def noElB : ByteArray := ⟨#[110, 111, 32, 101, 108, 101, 109, 101, 110, 116, 115]⟩
/-- Is an element taken? -/
def keepI (drop : Bool) (x : It) : Bool := !drop || !(x.d == 0)
def pickL (drop : Bool) (l : List It) : List It := l.filter (keepI drop)
theorem mkI_int {n : Int} (h0 : -999999999 ≤ n) (h1 : n ≤ 999999999) : mkI n 1 = ⟨n, 1, ⟨#[]⟩⟩ := by
  rw [int_mk (by omega) (by omega)]
  unfold ofQ
  rw [Rat.num_intCast, Rat.den_intCast, if_pos ⟨h0, h1, by decide⟩]
  rfl
/-- A result that fits: no text, ints. -/
def GoodI (x : It) : Prop := InB x ∧ x.t = ⟨#[]⟩
def sumL (l : List It) : It := l.foldl addI (mkI 0 1)
def prodL (l : List It) : It := l.foldl mulI (mkI 1 1)
def meanL (l : List It) : It := divI (sumL l) (mkI l.length 1)
def sqI (m : It) (s x : It) : It := addI s (mulI (subI x m) (subI x m))
def varL (l : List It) : It := divI (l.foldl (sqI (meanL l)) (mkI 0 1)) (mkI ((l.length - 1 : Nat) : Int) 1)
/-- The running sums. -/
def runL (l : List It) : List It := itF (fun i => sumL (l.take (i + 1))) l.length
/-- The elements of which a summary is made, the problem, the answer. -/
noncomputable def smyL (drop : Bool) (v : Vec) : List It := match bB (ValidV v ∧ Counts v) with | true => pickL drop (itemsV v) | false => []
noncomputable def smyS (u : ByteArray) (v : Vec) : ByteArray := match bB (ValidV v), bB (Counts v) with | false, _ => badB | true, false => u | true, true => ⟨#[]⟩
noncomputable def smyV (S : List It → It) (drop : Bool) (v : Vec) : Vec := match bB (ValidV v ∧ Counts v) with | true => vecOf 2 [S (pickL drop (itemsV v))] | false => noV
end Go.Proofs.Ytpekdmocgjjhnaa

/- The problem of one operand, in the program; an item that is appended. -/
namespace Go.Proofs.Ytpekdmocgjjhnaa
open Go.RowKit
set_option maxRecDepth 100000
set_option linter.unusedVariables false

end Go.Proofs.Ytpekdmocgjjhnaa

/- Elements selected by indexes: selectFrom at items, texts and vectors, knownNames. -/
namespace Go.Proofs.Ytpekdmocgjjhnaa
open Go.RowKit
set_option maxRecDepth 100000
set_option linter.unusedVariables false

/-- The elements at the indexes; none of a list without elements. -/
def pkL {α : Type} (z : α) (l : List α) (idx : List Nat) : List α := match l with | [] => [] | _ :: _ => idx.map (fun i => l.getD i z)
/-- The first k of them. -/
def pkF {α : Type} (z : α) (l : List α) (idx : List Nat) (k : Nat) : List α := (idx.take k).map (fun i => l.getD i z)
/-- Indexes as ints. -/
def ixF (idx : List Nat) (i : Nat) : Int := ((idx.getD i 0 : Nat) : Int)
/-- What a loop that appends texts to a local slice keeps. -/
structure TxZ (w wr : World) (l : List ByteArray) (v : Value) : Prop where
  row : wr.ownsRow w.heap.size 9 1 v l.length (l.map Value.string)
  below : Below w.heap.size w wr
theorem TxZ.keep {w wr w1 : World} {l : List ByteArray} {v : Value} (h : TxZ w wr l v) (hb : Below wr.heap.size wr w1) : TxZ w w1 l v := ⟨ownsRow_below h.row hb, below_then h.below hb⟩
theorem TxZ.nil (w wr : World) (hb : Below w.heap.size w wr) : TxZ w wr [] (.slice none 0 0) := ⟨⟨rfl, .inl ⟨rfl, rfl⟩⟩, hb⟩
theorem ItR.nil (w wr : World) (hb : Below w.heap.size w wr) : ItR w wr [] (.slice none 0 0) := ⟨⟨rfl, .inl ⟨rfl, rfl⟩⟩, hb⟩
/-- What a loop that appends vectors of old memory to a local slice keeps. -/
structure RowO (lo hi : Nat) (w wr : World) (d : Nat) (P : List Vec) (k : Nat) (v : Value) : Prop where
  ex : ∃ vals : List Value, vals.length = k ∧ wr.ownsRow w.heap.size 31 8 v k (vals.flatMap cl8) ∧ ∀ i, i < k → Is8 (vals.getD i undef) ∧ VecAt lo hi w d (P.getD i noV) (vals.getD i undef)
  below : Below w.heap.size w wr
theorem RowO.nil (lo hi : Nat) (w : World) (d : Nat) (P : List Vec) : RowO lo hi w w d P 0 (.slice none 0 0) := ⟨⟨[], rfl, ⟨rfl, .inl ⟨rfl, rfl⟩⟩, fun i h => absurd h (Nat.not_lt_zero _)⟩, Below.refl _ _⟩
theorem RowO.keep {lo hi : Nat} {w wr w1 : World} {d : Nat} {P : List Vec} {k : Nat} {v : Value} (h : RowO lo hi w wr d P k v) (hb : Below wr.heap.size wr w1) : RowO lo hi w w1 d P k v := by
  obtain ⟨vals, h1, h2, h3⟩ := h.ex
  exact ⟨⟨vals, h1, ownsRow_below h2 hb, h3⟩, below_then h.below hb⟩
theorem RowO.row {lo hi : Nat} {w wr : World} {d : Nat} {P : List Vec} {k : Nat} {v : Value} (h : RowO lo hi w wr d P k v) : ∃ xs, wr.ownsRow w.heap.size 31 8 v k xs := by
  obtain ⟨vals, _, h2, _⟩ := h.ex
  exact ⟨_, h2⟩
/-- Names, or none where all are empty. -/
noncomputable def clnN (l : List ByteArray) : List ByteArray := match bB (∃ i, i < l.length ∧ (l.getD i ⟨#[]⟩).size ≠ 0) with | true => l | false => []
end Go.Proofs.Ytpekdmocgjjhnaa

/- ResolvePositions as data. -/
namespace Go.Proofs.Ytpekdmocgjjhnaa
open Go.RowKit
set_option maxRecDepth 100000
set_option linter.unusedVariables false

/-- "invalid subscript", "subscript out of bounds", "invalid names", "not a list" -/
def invB : ByteArray := ⟨#[105, 110, 118, 97, 108, 105, 100, 32, 115, 117, 98, 115, 99, 114, 105, 112, 116]⟩
def oobB : ByteArray := ⟨#[115, 117, 98, 115, 99, 114, 105, 112, 116, 32, 111, 117, 116, 32, 111, 102, 32, 98, 111, 117, 110, 100, 115]⟩
def innB : ByteArray := ⟨#[105, 110, 118, 97, 108, 105, 100, 32, 110, 97, 109, 101, 115]⟩
def nltB : ByteArray := ⟨#[110, 111, 116, 32, 97, 32, 108, 105, 115, 116]⟩

/-! Logical subscripts. -/
def lgX (l : List It) (k : Nat) : List Int := if truthI (l.getD (k % l.length) noI) = 2 then [0] else if truthI (l.getD (k % l.length) noI) = 1 then [(k : Int) + 1] else []
def lgP (l : List It) : Nat → List Int
  | 0 => []
  | k + 1 => lgP l k ++ lgX l k
theorem lgP_miss {l : List It} {k : Nat} (h : truthI (l.getD (k % l.length) noI) = 2) : lgP l (k + 1) = lgP l k ++ [0] := by show lgP l k ++ lgX l k = _; unfold lgX; rw [if_pos h]
theorem lgP_yes {l : List It} {k : Nat} (h : truthI (l.getD (k % l.length) noI) = 1) : lgP l (k + 1) = lgP l k ++ [(k : Int) + 1] := by show lgP l k ++ lgX l k = _; unfold lgX; rw [if_neg (by rw [h]; decide), if_pos h]
theorem lgP_no {l : List It} {k : Nat} (h : truthI (l.getD (k % l.length) noI) = 0) : lgP l (k + 1) = lgP l k := by show lgP l k ++ lgX l k = _; unfold lgX; rw [if_neg (by rw [h]; decide), if_neg (by rw [h]; decide), List.append_nil]
theorem lgP_len (l : List It) : ∀ k, (lgP l k).length ≤ k
  | 0 => Nat.le_refl _
  | k + 1 => by
    show (lgP l k ++ lgX l k).length ≤ k + 1
    have := lgP_len l k
    rw [List.length_append]
    have h1 : (lgX l k).length ≤ 1 := by unfold lgX; split <;> (try split) <;> simp
    omega
def lgM (l : List It) (n : Nat) : Nat := if l.length = 0 then 0 else max n l.length

/-! Number subscripts. -/
def OkN (x : It) : Prop := x.d ≤ 1 ∧ -40 ≤ x.n ∧ x.n ≤ 40
def nmE : List It → ByteArray
  | [] => ⟨#[]⟩
  | x :: l => if 1 < x.d then invB else if x.n < -40 ∨ 40 < x.n then oobB else nmE l
theorem nmE_cons {x : It} {l : List It} (h : OkN x) : nmE (x :: l) = nmE l := by
  obtain ⟨h1, h2, h3⟩ := h
  show (if 1 < x.d then invB else if x.n < -40 ∨ 40 < x.n then oobB else nmE l) = _
  rw [if_neg (by omega), if_neg (by omega)]
theorem nmE_ok : ∀ (l : List It), (∀ i, i < l.length → OkN (l.getD i noI)) → nmE l = ⟨#[]⟩
  | [], _ => rfl
  | x :: l, h => by rw [nmE_cons (show OkN x from h 0 (Nat.succ_pos _))]; exact nmE_ok l (fun i hi => h (i + 1) (Nat.succ_lt_succ hi))
theorem nmE_frac : ∀ (l : List It) (k : Nat), k < l.length → (∀ i, i < k → OkN (l.getD i noI)) → 1 < (l.getD k noI).d → nmE l = invB
  | [], _, h, _, _ => absurd h (Nat.not_lt_zero _)
  | x :: l, 0, _, _, h => by
    have h' : 1 < x.d := h
    show (if 1 < x.d then invB else if x.n < -40 ∨ 40 < x.n then oobB else nmE l) = _
    rw [if_pos h']
  | x :: l, k + 1, hk, ok, h => by rw [nmE_cons (show OkN x from ok 0 (Nat.succ_pos _))]; exact nmE_frac l k (Nat.lt_of_succ_lt_succ hk) (fun i hi => ok (i + 1) (Nat.succ_lt_succ hi)) h
theorem nmE_out : ∀ (l : List It) (k : Nat), k < l.length → (∀ i, i < k → OkN (l.getD i noI)) → ¬ 1 < (l.getD k noI).d → (l.getD k noI).n < -40 ∨ 40 < (l.getD k noI).n → nmE l = oobB
  | [], _, h, _, _, _ => absurd h (Nat.not_lt_zero _)
  | x :: l, 0, _, _, h, g => by
    have h' : ¬ 1 < x.d := h
    have g' : x.n < -40 ∨ 40 < x.n := g
    show (if 1 < x.d then invB else if x.n < -40 ∨ 40 < x.n then oobB else nmE l) = _
    rw [if_neg h', if_pos g']
  | x :: l, k + 1, hk, ok, h, g => by rw [nmE_cons (show OkN x from ok 0 (Nat.succ_pos _))]; exact nmE_out l k (Nat.lt_of_succ_lt_succ hk) (fun i hi => ok (i + 1) (Nat.succ_lt_succ hi)) h g
theorem nmE_all : ∀ (l : List It), nmE l = ⟨#[]⟩ → ∀ i, i < l.length → OkN (l.getD i noI)
  | [], _, _, h => absurd h (Nat.not_lt_zero _)
  | x :: l, e, i, hi => by
    have e' : (if 1 < x.d then invB else if x.n < -40 ∨ 40 < x.n then oobB else nmE l) = ⟨#[]⟩ := e
    by_cases h1 : 1 < x.d
    · rw [if_pos h1] at e'; exact absurd e' (by decide)
    · rw [if_neg h1] at e'
      by_cases h2 : x.n < -40 ∨ 40 < x.n
      · rw [if_pos h2] at e'; exact absurd e' (by decide)
      · rw [if_neg h2] at e'
        match i, hi with
        | 0, _ => exact ⟨by show x.d ≤ 1; omega, by show -40 ≤ x.n; omega, by show x.n ≤ 40; omega⟩
        | i + 1, hi => exact nmE_all l e' i (Nat.lt_of_succ_lt_succ hi)
def nmX (x : It) : List Int := if x.n ≠ 0 ∨ x.d = 0 then [x.n] else []
/-- The numbers but for the zeros; 0 for a missing one. -/
def nmC (l : List It) : Nat → List Int
  | 0 => []
  | k + 1 => nmC l k ++ nmX (l.getD k noI)
theorem nmC_yes {l : List It} {k : Nat} (h : (l.getD k noI).n ≠ 0 ∨ (l.getD k noI).d = 0) : nmC l (k + 1) = nmC l k ++ [(l.getD k noI).n] := by show nmC l k ++ nmX (l.getD k noI) = _; unfold nmX; rw [if_pos h]
theorem nmC_no {l : List It} {k : Nat} (h : ¬ ((l.getD k noI).n ≠ 0 ∨ (l.getD k noI).d = 0)) : nmC l (k + 1) = nmC l k := by show nmC l k ++ nmX (l.getD k noI) = _; unfold nmX; rw [if_neg h, List.append_nil]
theorem nmC_len (l : List It) : ∀ k, (nmC l k).length ≤ k
  | 0 => Nat.le_refl _
  | k + 1 => by
    show (nmC l k ++ nmX (l.getD k noI)).length ≤ k + 1
    have := nmC_len l k
    rw [List.length_append]
    have h1 : (nmX (l.getD k noI)).length ≤ 1 := by unfold nmX; split <;> simp
    omega
/-- What the first k numbers make: a minus sign, something else. -/
def NegK (l : List It) (k : Nat) : Prop := ∃ i, i < k ∧ (l.getD i noI).n < 0
def PosK (l : List It) (k : Nat) : Prop := ∃ i, i < k ∧ (0 < (l.getD i noI).n ∨ (l.getD i noI).d = 0)
theorem nmC_mem {l : List It} {z : Int} : ∀ {k : Nat}, z ∈ nmC l k ↔ ∃ i, i < k ∧ (l.getD i noI).n = z ∧ ((l.getD i noI).n ≠ 0 ∨ (l.getD i noI).d = 0)
  | 0 => ⟨(fun h => by cases h), fun ⟨i, h, _⟩ => absurd h (Nat.not_lt_zero _)⟩
  | k + 1 => by
    have ih := nmC_mem (l := l) (z := z) (k := k)
    by_cases h : (l.getD k noI).n ≠ 0 ∨ (l.getD k noI).d = 0
    · rw [nmC_yes h, List.mem_append, ih, List.mem_singleton]
      constructor
      · rintro (⟨i, h1, h2⟩ | rfl)
        · exact ⟨i, by omega, h2⟩
        · exact ⟨k, by omega, rfl, h⟩
      · rintro ⟨i, h1, h2, h3⟩
        by_cases e : i = k
        · subst e; exact .inr h2.symm
        · exact .inl ⟨i, by omega, h2, h3⟩
    · rw [nmC_no h, ih]
      constructor
      · rintro ⟨i, h1, h2⟩; exact ⟨i, by omega, h2⟩
      · rintro ⟨i, h1, h2, h3⟩
        by_cases e : i = k
        · subst e; exact absurd h3 h
        · exact ⟨i, by omega, h2, h3⟩
def NegIn (c : List Int) : Prop := ∃ i, i < c.length ∧ c.getD i 0 < 0
def AllNeg (c : List Int) : Prop := ∀ i, i < c.length → c.getD i 0 < 0
theorem getDZ_mem {c : List Int} {i : Nat} (h : i < c.length) : c.getD i 0 ∈ c := by rw [List.getD_eq_getElem?_getD, List.getElem?_eq_getElem h]; exact List.getElem_mem h
theorem memZ_getD {c : List Int} {z : Int} (h : z ∈ c) : ∃ i, i < c.length ∧ c.getD i 0 = z := by
  obtain ⟨i, hi, e⟩ := List.getElem_of_mem h
  exact ⟨i, hi, by rw [List.getD_eq_getElem?_getD, List.getElem?_eq_getElem hi]; exact e⟩
theorem neg_iff {l : List It} {k : Nat} : NegIn (nmC l k) ↔ NegK l k := by
  constructor
  · rintro ⟨i, hi, h⟩
    obtain ⟨j, h1, h2, _⟩ := nmC_mem.1 (getDZ_mem hi)
    exact ⟨j, h1, by omega⟩
  · rintro ⟨j, h1, h2⟩
    have hne : (l.getD j noI).n ≠ 0 := by omega
    obtain ⟨i, hi, e⟩ := memZ_getD (nmC_mem.2 ⟨j, h1, rfl, .inl hne⟩)
    exact ⟨i, hi, by omega⟩
theorem all_iff {l : List It} {k : Nat} (h0 : ∀ i, i < k → (l.getD i noI).d = 0 → (l.getD i noI).n = 0) : AllNeg (nmC l k) ↔ ¬ PosK l k := by
  constructor
  · rintro h ⟨j, h1, h2⟩
    have hc : (l.getD j noI).n ≠ 0 ∨ (l.getD j noI).d = 0 := by rcases h2 with h2 | h2 <;> omega
    obtain ⟨i, hi, e⟩ := memZ_getD (nmC_mem.2 ⟨j, h1, rfl, hc⟩)
    have h3 := h i hi
    rcases h2 with h2 | h2
    · omega
    · have := h0 j h1 h2; omega
  · intro h i hi
    obtain ⟨j, h1, h2, h3⟩ := nmC_mem.1 (getDZ_mem hi)
    have h4 : ¬ (0 < (l.getD j noI).n ∨ (l.getD j noI).d = 0) := fun h5 => h ⟨j, h1, h5⟩
    omega
/-- Is the number among them? -/
def HasZ (c : List Int) (z : Int) : Prop := ∃ i, i < c.length ∧ c.getD i 0 = z
noncomputable def exP (c : List Int) (i : Nat) : Bool := !bB (HasZ c (-((i : Int) + 1)))
/-- The positions up to n but for the excluded ones. -/
noncomputable def exZ (c : List Int) (n : Nat) : List Int := (whN (exP c) n).map (fun (i : Nat) => (i : Int) + 1)
theorem exZ_yes {c : List Int} {k : Nat} (h : exP c k = true) : exZ c (k + 1) = exZ c k ++ [(k : Int) + 1] := by unfold exZ; rw [whN_yes h, List.map_append]; rfl
theorem exZ_no {c : List Int} {k : Nat} (h : exP c k = false) : exZ c (k + 1) = exZ c k := by unfold exZ; rw [whN_no h]
theorem exZ_len (c : List Int) (k : Nat) : (exZ c k).length ≤ k := by unfold exZ; rw [List.length_map]; exact whN_len _ _
noncomputable def nmZ (c : List Int) (n : Nat) : List Int := bif bB (NegIn c) then (bif bB (AllNeg c) then exZ c n else []) else c
noncomputable def nmR (c : List Int) : ByteArray := bif bB (NegIn c) then (bif bB (AllNeg c) then ⟨#[]⟩ else invB) else ⟨#[]⟩
theorem nm_plain {c : List Int} (n : Nat) (h : ¬ NegIn c) : nmZ c n = c ∧ nmR c = ⟨#[]⟩ := by unfold nmZ nmR; rw [bB_no h]; exact ⟨rfl, rfl⟩
theorem nm_mixed {c : List Int} (n : Nat) (h : NegIn c) (h2 : ¬ AllNeg c) : nmZ c n = [] ∧ nmR c = invB := by unfold nmZ nmR; rw [bB_yes h, bB_no h2]; exact ⟨rfl, rfl⟩
theorem nm_minus {c : List Int} (n : Nat) (h : NegIn c) (h2 : AllNeg c) : nmZ c n = exZ c n ∧ nmR c = ⟨#[]⟩ := by unfold nmZ nmR; rw [bB_yes h, bB_yes h2]; exact ⟨rfl, rfl⟩
noncomputable def nuZ (l : List It) (n : Nat) : List Int := bif bB (nmE l = ⟨#[]⟩) then nmZ (nmC l l.length) n else []
noncomputable def nuS (l : List It) : ByteArray := bif bB (nmE l = ⟨#[]⟩) then nmR (nmC l l.length) else nmE l
theorem nu_bad {l : List It} (n : Nat) (h : ¬ nmE l = ⟨#[]⟩) : nuZ l n = [] ∧ nuS l = nmE l := by unfold nuZ nuS; rw [bB_no h]; exact ⟨rfl, rfl⟩
theorem nu_ok {l : List It} (n : Nat) (h : nmE l = ⟨#[]⟩) : nuZ l n = nmZ (nmC l l.length) n ∧ nuS l = nmR (nmC l l.length) := by unfold nuZ nuS; rw [bB_yes h]; exact ⟨rfl, rfl⟩

/-! Texts as subscripts. -/
def findL (K : List ByteArray) (s : ByteArray) : Int := findF s (fun i => K.getD i ⟨#[]⟩) K.length 0
theorem findL_le (K : List ByteArray) (s : ByteArray) : -1 ≤ findL K s := (findF_le s _ _ 0).1
theorem findL_lt (K : List ByteArray) (s : ByteArray) : findL K s < K.length := by
  unfold findL
  rcases findF_first s (fun i => K.getD i ⟨#[]⟩) K.length 0 with ⟨e, _⟩ | ⟨j, e, _, h2, _⟩ <;> rw [e] <;> omega
theorem findL_in {K : List ByteArray} {s : ByteArray} : 0 ≤ findL K s ↔ ∃ i, i < K.length ∧ K.getD i ⟨#[]⟩ = s := by
  unfold findL
  rcases findF_first s (fun i => K.getD i ⟨#[]⟩) K.length 0 with ⟨e, hn⟩ | ⟨j, e, _, h2, h3, _⟩
  · rw [e]
    exact ⟨fun h => by omega, fun ⟨i, hi, he⟩ => absurd (by rw [he]) (hn i (Nat.zero_le _) (by omega))⟩
  · rw [e]
    exact ⟨fun _ => ⟨j, by omega, toList_inj h3⟩, fun _ => by omega⟩
/-- The place of a text that was just put behind the others. -/
theorem findL_new {K : List ByteArray} {s : ByteArray} (h : ¬ 0 ≤ findL K s) : findL (K ++ [s]) s = K.length := by
  have hn : ∀ i, i < K.length → K.getD i ⟨#[]⟩ ≠ s := fun i hi e => h (findL_in.2 ⟨i, hi, e⟩)
  have g : ∀ i, i < K.length → (K ++ [s]).getD i ⟨#[]⟩ = K.getD i ⟨#[]⟩ := fun i hi => by simp [List.getD_eq_getElem?_getD, List.getElem?_append_left hi]
  have ge : (K ++ [s]).getD K.length ⟨#[]⟩ = s := by simp [List.getD_eq_getElem?_getD]
  unfold findL
  rcases findF_first s (fun i => (K ++ [s]).getD i ⟨#[]⟩) (K ++ [s]).length 0 with ⟨e, hn'⟩ | ⟨j, e, _, h2, h3, h4⟩
  · exact absurd (by rw [ge]) (hn' K.length (Nat.zero_le _) (by simp))
  · rw [e]
    simp only [List.length_append, List.length_cons, List.length_nil] at h2
    have h3' := toList_inj h3
    have hj : ¬ j < K.length := fun hj => by rw [g j hj] at h3'; exact hn j hj h3'
    have : j = K.length := by omega
    rw [this]
noncomputable def txW (K : List ByteArray) (x : It) : List ByteArray := bif bB (x = noI ∨ 0 ≤ findL K x.t) then K else K ++ [x.t]
noncomputable def txK (K : List ByteArray) (l : List It) : Nat → List ByteArray
  | 0 => K
  | k + 1 => txW (txK K l k) (l.getD k noI)
noncomputable def txZ (K : List ByteArray) (x : It) : Int := bif bB (x = noI) then 0 else findL K x.t + 1
noncomputable def txP (K : List ByteArray) (l : List It) : Nat → List Int
  | 0 => []
  | k + 1 => txP K l k ++ [txZ (txK K l (k + 1)) (l.getD k noI)]
theorem txK_miss {K : List ByteArray} {l : List It} {k : Nat} (h : l.getD k noI = noI) : txK K l (k + 1) = txK K l k := by show txW (txK K l k) (l.getD k noI) = _; unfold txW; rw [bB_yes (.inl h)]; rfl
theorem txK_old {K : List ByteArray} {l : List It} {k : Nat} (h : 0 ≤ findL (txK K l k) (l.getD k noI).t) : txK K l (k + 1) = txK K l k := by show txW (txK K l k) (l.getD k noI) = _; unfold txW; rw [bB_yes (.inr h)]; rfl
theorem txK_new {K : List ByteArray} {l : List It} {k : Nat} (h0 : ¬ l.getD k noI = noI) (h : ¬ 0 ≤ findL (txK K l k) (l.getD k noI).t) : txK K l (k + 1) = txK K l k ++ [(l.getD k noI).t] := by show txW (txK K l k) (l.getD k noI) = _; unfold txW; rw [bB_no (fun e => e.elim h0 h)]; rfl
theorem txP_miss {K : List ByteArray} {l : List It} {k : Nat} (h : l.getD k noI = noI) : txP K l (k + 1) = txP K l k ++ [0] := by show txP K l k ++ [txZ _ (l.getD k noI)] = _; unfold txZ; rw [bB_yes h]; rfl
theorem txP_old {K : List ByteArray} {l : List It} {k : Nat} (h0 : ¬ l.getD k noI = noI) (h : 0 ≤ findL (txK K l k) (l.getD k noI).t) : txP K l (k + 1) = txP K l k ++ [findL (txK K l k) (l.getD k noI).t + 1] := by show txP K l k ++ [txZ _ (l.getD k noI)] = _; unfold txZ; rw [bB_no h0, txK_old h]; rfl
theorem txP_new {K : List ByteArray} {l : List It} {k : Nat} (h0 : ¬ l.getD k noI = noI) (h : ¬ 0 ≤ findL (txK K l k) (l.getD k noI).t) : txP K l (k + 1) = txP K l k ++ [((txK K l k).length : Int) + 1] := by show txP K l k ++ [txZ _ (l.getD k noI)] = _; unfold txZ; rw [bB_no h0, txK_new h0 h, findL_new h]; rfl
theorem txK_len (K : List ByteArray) (l : List It) : ∀ k, (txK K l k).length ≤ K.length + k
  | 0 => Nat.le_refl _
  | k + 1 => by
    have := txK_len K l k
    show (txW (txK K l k) (l.getD k noI)).length ≤ _
    unfold txW
    cases bB (l.getD k noI = noI ∨ 0 ≤ findL (txK K l k) (l.getD k noI).t) with
    | true => show (txK K l k).length ≤ _; omega
    | false => show (txK K l k ++ [(l.getD k noI).t]).length ≤ _; rw [List.length_append, List.length_singleton]; omega
theorem txP_len (K : List ByteArray) (l : List It) : ∀ k, (txP K l k).length = k
  | 0 => rfl
  | k + 1 => by show (txP K l k ++ [_]).length = k + 1; rw [List.length_append, txP_len K l k]; rfl
def OkT (x : It) : Prop := x = noI ∨ x.t.size ≠ 0
def AllT (l : List It) : Prop := ∀ i, i < l.length → OkT (l.getD i noI)
/-- The names, or empty ones. -/
def padL (names : List ByteArray) (n : Nat) : List ByteArray := names ++ List.replicate (n - names.length) ⟨#[]⟩
theorem padL_len (names : List ByteArray) (n : Nat) (h : names.length ≤ n) : (padL names n).length = n := by unfold padL; rw [List.length_append, List.length_replicate]; omega
noncomputable def teZ (K : List ByteArray) (l : List It) : List Int := bif bB (AllT l) then txP K l l.length else []
noncomputable def teS (l : List It) : ByteArray := bif bB (AllT l) then ⟨#[]⟩ else invB
theorem te_ok {K : List ByteArray} {l : List It} (h : AllT l) : teZ K l = txP K l l.length ∧ teS l = ⟨#[]⟩ := by unfold teZ teS; rw [bB_yes h]; exact ⟨rfl, rfl⟩
theorem te_bad {K : List ByteArray} {l : List It} (h : ¬ AllT l) : teZ K l = [] ∧ teS l = invB := by unfold teZ teS; rw [bB_no h]; exact ⟨rfl, rfl⟩

/-! The whole. -/
def NmOk (n : Int) (names : List ByteArray) : Prop := 0 ≤ n ∧ n ≤ 40 ∧ (names.length = 0 ∨ (names.length : Int) = n)
noncomputable def rkZ (k : Int) (items : List It) (names : List ByteArray) (n : Nat) : List Int := if k = 1 then lgP items (lgM items n) else if k = 2 then nuZ items n else if k = 3 then teZ (padL names n) items else []
noncomputable def rkS (k : Int) (items : List It) : ByteArray := if k = 2 then nuS items else if k = 3 then teS items else if 4 ≤ k then invB else ⟨#[]⟩
noncomputable def rsZ (n : Int) (names : List ByteArray) (s : Vec) : List Int := bif bB (ValidV s ∧ NmOk n names) then (match s with | .mk k items _ _ _ _ _ _ => rkZ k items names n.toNat) else []
noncomputable def rsS (n : Int) (names : List ByteArray) (s : Vec) : ByteArray := bif bB (ValidV s) then (bif bB (NmOk n names) then (match s with | .mk k items _ _ _ _ _ _ => rkS k items) else innB) else badB
theorem rs_bad {n : Int} {names : List ByteArray} {s : Vec} (h : ¬ ValidV s) : rsZ n names s = [] ∧ rsS n names s = badB := by unfold rsZ rsS; rw [bB_no h, bB_no (fun e => h e.1)]; exact ⟨rfl, rfl⟩
theorem rs_names {n : Int} {names : List ByteArray} {s : Vec} (h : ValidV s) (h2 : ¬ NmOk n names) : rsZ n names s = [] ∧ rsS n names s = innB := by unfold rsZ rsS; rw [bB_yes h, bB_no h2, bB_no (fun e => h2 e.2)]; exact ⟨rfl, rfl⟩
theorem rs_yes {n : Int} {names : List ByteArray} {k : Int} {items : List It} {parts : List Vec} {nm cls lev : List ByteArray} {code env : Int} (h : ValidV (.mk k items parts nm cls lev code env)) (h2 : NmOk n names) : rsZ n names (.mk k items parts nm cls lev code env) = rkZ k items names n.toNat ∧ rsS n names (.mk k items parts nm cls lev code env) = rkS k items := by
  unfold rsZ rsS; rw [bB_yes h, bB_yes h2, bB_yes ⟨h, h2⟩]; exact ⟨rfl, rfl⟩
theorem rk_lgc {items : List It} {names : List ByteArray} {n : Nat} : rkZ 1 items names n = lgP items (lgM items n) ∧ rkS 1 items = ⟨#[]⟩ := ⟨rfl, rfl⟩
theorem rk_num {items : List It} {names : List ByteArray} {n : Nat} : rkZ 2 items names n = nuZ items n ∧ rkS 2 items = nuS items := ⟨rfl, rfl⟩
theorem rk_txt {items : List It} {names : List ByteArray} {n : Nat} : rkZ 3 items names n = teZ (padL names n) items ∧ rkS 3 items = teS items := ⟨rfl, rfl⟩
theorem rk_null {items : List It} {names : List ByteArray} {n : Nat} : rkZ 0 items names n = [] ∧ rkS 0 items = ⟨#[]⟩ := ⟨rfl, rfl⟩
theorem rk_list {k : Int} (h : 4 ≤ k) {items : List It} {names : List ByteArray} {n : Nat} : rkZ k items names n = [] ∧ rkS k items = invB := by
  unfold rkZ rkS
  rw [if_neg (by omega), if_neg (by omega), if_neg (by omega), if_neg (by omega), if_neg (by omega), if_pos h]
  exact ⟨rfl, rfl⟩
end Go.Proofs.Ytpekdmocgjjhnaa

/- Ints reversed in place. -/
namespace Go.Proofs.Ytpekdmocgjjhnaa
open Go.RowKit
set_option maxRecDepth 100000
set_option linter.unusedVariables false

/-- The ints of a row of its own: its block. -/
theorem IntZ.parts {w0 w : World} {l : List Int} {v : Value} (h : IntZ w0 w l v) (hl : l.length ≠ 0) : ∃ g c, v = .slice (some ⟨g, 0, none⟩) l.length c ∧ w0.heap.size ≤ g ∧ g < w.heap.size := by
  obtain ⟨_, ⟨_, h0⟩ | ⟨g, cap, cur, e, hB, hg, _⟩⟩ := h.row
  · exact absurd h0 hl
  · exact ⟨g, cap, e, hB, (Array.getElem?_eq_some_iff.1 hg).1⟩
theorem intC_at {l : List Int} {k : Nat} (hk : k < l.length) : (intC l)[k]? = some (.int .i64 (l.getD k 0)) := by
  unfold intC
  simp [List.getD_eq_getElem?_getD, List.getElem?_map, List.getElem?_eq_getElem hk]
theorem IntZ.cell {w0 w : World} {l : List Int} {g n c k : Nat} (h : IntZ w0 w l (.slice (some ⟨g, 0, none⟩) n c)) (hk : k < l.length) : w.cell? ⟨g, k, none⟩ = some (.int .i64 (l.getD k 0)) ∧ w.frozen? ⟨g, k, none⟩ = false := by
  obtain ⟨_, ⟨e, _⟩ | ⟨g', cap, cur, e, hB, hg, hc, hm, hs, ht⟩⟩ := h.row
  · cases e
  · simp only [Value.slice.injEq, Option.some.injEq, Addr.mk.injEq, and_true] at e
    obtain ⟨rfl, _, _⟩ := e
    refine ⟨cellOf hg ?_, freeOf hg⟩
    rw [← Array.getElem?_toList, ← intC_at hk, ← ht, List.getElem?_take, if_pos (by omega)]
theorem IntZ.set {w0 w : World} {l : List Int} {g n c k : Nat} {z : Int} (h : IntZ w0 w l (.slice (some ⟨g, 0, none⟩) n c)) (hk : k < l.length) : IntZ w0 (w.setCell ⟨g, k, none⟩ (.int .i64 z)) (l.set k z) (.slice (some ⟨g, 0, none⟩) n c) := by
  obtain ⟨h1, ⟨e, _⟩ | ⟨g', cap, cur, e, hB, hg, hc, hm, hs, ht⟩⟩ := h.row
  · cases e
  · simp only [Value.slice.injEq, Option.some.injEq, Addr.mk.injEq, and_true] at e
    obtain ⟨rfl, rfl, rfl⟩ := e
    have e1 : (l.set k z).length = l.length := by simp
    refine ⟨⟨by rw [e1]; unfold intC; simp, .inr ⟨g, c, cur.setIfInBounds k (.int .i64 z), by rw [e1], hB, Joins.block_setCell hg _, by rw [e1]; exact hc, hm, by simpa using hs, ?_⟩⟩, h.below.setCell (p := ⟨g, k, none⟩) hB _⟩
    rw [e1, Array.toList_setIfInBounds, List.take_set, ht]
    unfold intC
    rw [List.map_set]
theorem IntZ.drew {w0 w : World} {l : List Int} {v : Value} (h : IntZ w0 w l v) : IntZ w0 w.drew l v := h.keep (below_drew' (Below.refl _ _))
/-- The first i and the last i of n, exchanged. -/
def rvF (f : Nat → Int) (n i p : Nat) : Int := if p < i ∨ n ≤ p + i then f (n - 1 - p) else f p
def rvL (f : Nat → Int) (n i : Nat) : List Int := (List.range n).map (rvF f n i)
end Go.Proofs.Ytpekdmocgjjhnaa

/- Ints of a row: the first at which a function's value holds, those deleted at which it holds (slices.IndexFunc, DeleteFunc), slices.Contains of ints. -/
namespace Go.Proofs.Ytpekdmocgjjhnaa
open Go.RowKit Go.Shelf
set_option maxRecDepth 100000
set_option linter.unusedVariables false

/-- A function's value that says p, whatever is new. -/
structure PredZ (fid : FuncId) (cap : Array Value) (p : Int → Bool) (w0 : World) : Prop where
  out : ∀ (z : Int) (W : World), Below w0.heap.size w0 W → -9223372036854775808 < z → z ≤ 9223372036854775807 → Calls Try.prog fid (#[.int .i64 z] ++ cap) W fun e w' => e = .returned (.bool (p z)) ∧ Below W.heap.size W w'
def FstZ (p : Int → Bool) (f : Nat → Int) (n : Nat) (r : Int) : Prop := (r = -1 ∧ ∀ i, i < n → p (f i) = false) ∨ ∃ j : Nat, r = j ∧ j < n ∧ p (f j) = true ∧ ∀ i, i < j → p (f i) = false
set_option maxHeartbeats 2000000 in
theorem implIndexFn (fid : FuncId) (cap : Array Value) (p : Int → Bool) (w0 : World) (eg : ∀ args w, (callFunc fid args).run Try.prog w = .ok (.enter fid args) w) (hG : PredZ fid cap p w0) (a : Option Addr) (n c : Nat) (f : Nat → Int) (B : Nat) (w : World) (hs : IntsAt B w a n f) (hB : B ≤ w.heap.size) (hw : Below w0.heap.size w0 w) (hn : n ≤ 1048576)
    (hf : ∀ i, i < n → -9223372036854775808 < f i ∧ f i ≤ 9223372036854775807) :
    Calls Try.prog 114 #[.slice a n c, .func (.func fid) #[] cap] w fun e w' => ∃ r, FstZ p f n r ∧ e = .returned (.int .i64 r) ∧ Below w.heap.size w w' := by
  have SA := Lib.hid hs
  have HG := Lib.hid (fun k W (hk : k < n) hb => hG.out (f k) W (below_then hw hb) (hf k hk).1 (hf k hk).2)
  clear hs hG hf
  go_enter Try.func114, Try.ntmps114
  go_wp2
  go_loopw [8] (fun i wr => ∃ k : Nat, k ≤ n ∧ i = .int .i64 k ∧ (∀ j, j < k → p (f j) = false) ∧ Below w.heap.size w wr) (fun i _ => n - (intOf i).toNat)
  case atStart => exact ⟨0, Nat.zero_le _, rfl, (fun _ h => absurd h (Nat.not_lt_zero _)), Below.refl _ _⟩
  case round =>
    obtain ⟨k, hk, rfl, hne, hb⟩ := hrel
    have NE := Lib.hid hne
    have BW := Lib.hid hb
    clear hne hb
    by_cases hlt : k < n
    · obtain ⟨b, off, rfl, hbB, hc⟩ := (SA.out.below (BW.out.mono hB)) k hlt
      have HC := Lib.hid (HG.out k wr hlt BW.out)
      cases hp : p (f k) with
      | true =>
        have X := Lib.hid (show FstZ p f n (k : Int) from .inr ⟨k, rfl, hlt, hp, NE.out⟩)
        rw [hp] at HC
        clear hp
        go_wp2_with (go_at_fn fid; refine HC.out.mono ?_; rintro e w2 ⟨rfl, b2⟩)
        have B2 := Lib.hid (below_then BW.out b2)
        go_ret
        exact ⟨_, X.out, rfl, B2.out⟩
      | false =>
        have N2 := Lib.hid (show ∀ j, j < k + 1 → p (f j) = false from fun j hj => by
          by_cases e : j = k
          · subst e; exact hp
          · exact NE.out j (by omega))
        rw [hp] at HC
        clear hp
        go_wp2_with (go_at_fn fid; refine HC.out.mono ?_; rintro e w2 ⟨rfl, b2⟩)
        have B2 := Lib.hid (below_then BW.out b2)
        go_roundw
        case rel => exact ⟨k + 1, by omega, by go_num, N2.out, B2.out⟩
        case measure => simp [intOf]; omega
    · obtain rfl : k = n := by omega
      have X := Lib.hid (show FstZ p f k (-1) from .inl ⟨rfl, NE.out⟩)
      go_wp2
      go_ret
      exact ⟨_, X.out, rfl, BW.out⟩
/-! What is kept while ints are deleted in place. -/
structure KeptZ (p : Int → Bool) (l : List Int) (j i : Nat) (M : List Int) : Prop where
  len : M.length = l.length
  low : M.take i = (l.take j).filter (fun z => !p z)
  high : ∀ q, j ≤ q → q < l.length → M.getD q 0 = l.getD q 0
  lt : i < j
theorem take_nextZ {l : List Int} {k : Nat} (h : k < l.length) : l.take (k + 1) = l.take k ++ [l.getD k 0] := by
  rw [List.take_add_one]; simp [List.getD_eq_getElem?_getD, h]
theorem KeptZ.start {p : Int → Bool} {l : List Int} {k : Nat} (hk : k < l.length) (h : ∀ i, i < k → p (l.getD i 0) = false) (hp : p (l.getD k 0) = true) : KeptZ p l (k + 1) k l := by
  refine ⟨rfl, ?_, fun _ _ _ => rfl, Nat.lt_succ_self _⟩
  rw [take_nextZ hk, List.filter_append]
  have e1 : [l.getD k 0].filter (fun z => !p z) = [] := by rw [List.filter_cons]; simp only [hp, Bool.not_true]; rfl
  rw [e1, List.append_nil]
  symm
  rw [List.filter_eq_self]
  intro z hz
  obtain ⟨i, hi, e⟩ := List.getElem_of_mem hz
  rw [List.length_take] at hi
  rw [List.getElem_take] at e
  have := h i (by omega)
  rw [List.getD_eq_getElem?_getD, List.getElem?_eq_getElem (by omega)] at this
  simp only [Option.getD_some] at this
  rw [← e, this]; rfl
theorem KeptZ.keep {p : Int → Bool} {l M : List Int} {j i : Nat} (h : KeptZ p l j i M) (hj : j < l.length) (hp : p (l.getD j 0) = false) : KeptZ p l (j + 1) (i + 1) (M.set i (l.getD j 0)) := by
  obtain ⟨h1, h2, h3, h4⟩ := h
  refine ⟨by rw [List.length_set]; exact h1, ?_, fun q hq hl => ?_, by omega⟩
  · have hi : i < M.length := by omega
    rw [take_nextZ (by rw [List.length_set]; exact hi), take_nextZ hj, List.filter_append, ← h2]
    have e1 : [l.getD j 0].filter (fun z => !p z) = [l.getD j 0] := by rw [List.filter_cons]; simp only [hp, Bool.not_false]; rfl
    rw [e1, List.take_set]
    have e2 : (M.take i).set i (l.getD j 0) = M.take i := List.set_eq_of_length_le (by rw [List.length_take]; omega)
    rw [e2]
    simp [List.getD_eq_getElem?_getD, hi]
  · have := h3 q (by omega) hl
    rw [← this]
    simp only [List.getD_eq_getElem?_getD]
    rw [List.getElem?_set_ne (by omega)]
theorem KeptZ.skip {p : Int → Bool} {l M : List Int} {j i : Nat} (h : KeptZ p l j i M) (hj : j < l.length) (hp : p (l.getD j 0) = true) : KeptZ p l (j + 1) i M := by
  obtain ⟨h1, h2, h3, h4⟩ := h
  refine ⟨h1, ?_, fun q hq hl => h3 q (by omega) hl, by omega⟩
  rw [take_nextZ hj, List.filter_append, ← h2]
  have e1 : [l.getD j 0].filter (fun z => !p z) = [] := by rw [List.filter_cons]; simp only [hp, Bool.not_true]; rfl
  rw [e1, List.append_nil]
theorem KeptZ.done {p : Int → Bool} {l M : List Int} {i : Nat} (h : KeptZ p l l.length i M) : M.take i = l.filter (fun z => !p z) := by
  have := h.low; rwa [List.take_length] at this
theorem IntZ.take {w0 w : World} {l : List Int} {g n c i : Nat} (h : IntZ w0 w l (.slice (some ⟨g, 0, none⟩) n c)) (hi : i ≤ l.length) : IntZ w0 w (l.take i) (.slice (some ⟨g, 0, none⟩) i c) := by
  obtain ⟨hl, ⟨e, _⟩ | ⟨g', cap, cur, e, hB, hg, hc, hm, hs, ht⟩⟩ := h.row
  · cases e
  · simp only [Value.slice.injEq, Option.some.injEq, Addr.mk.injEq, and_true] at e
    obtain ⟨rfl, rfl, rfl⟩ := e
    have e1 : (l.take i).length = i := by rw [List.length_take]; omega
    refine ⟨⟨by unfold intC; simp, .inr ⟨g, c, cur, by rw [e1], hB, hg, by rw [e1]; omega, hm, by simpa using hs, ?_⟩⟩, h.below⟩
    have e2 : intC (l.take i) = (intC l).take i := by unfold intC; rw [List.map_take]
    rw [e1, e2, ← ht, List.take_take, Nat.mul_one, Nat.mul_one, Nat.min_eq_left hi]
theorem IntZ.zeros {w0 : World} {g n c : Nat} : ∀ (m i : Nat) (w : World) (l : List Int), IntZ w0 w l (.slice (some ⟨g, 0, none⟩) n c) → i + m ≤ l.length → ∃ l', IntZ w0 (w.setCells g i (List.replicate m (.int .i64 0))) l' (.slice (some ⟨g, 0, none⟩) n c) ∧ l'.length = l.length ∧ l'.take i = l.take i
  | 0, i, w, l, h, _ => ⟨l, h, rfl, rfl⟩
  | m + 1, i, w, l, h, hl => by
    obtain ⟨l', h1, h2, h3⟩ := IntZ.zeros m (i + 1) _ _ (h.set (k := i) (z := 0) (by omega)) (by rw [List.length_set]; omega)
    refine ⟨l', h1, by rw [h2, List.length_set], ?_⟩
    have e : l'.take i = (l'.take (i + 1)).take i := by rw [List.take_take, Nat.min_eq_left (by omega)]
    rw [e, h3, List.take_take, Nat.min_eq_left (by omega), List.take_set]
    exact List.set_eq_of_length_le (by rw [List.length_take]; omega)
theorem IntZ.cap {w0 w : World} {l : List Int} {g n c : Nat} (h : IntZ w0 w l (.slice (some ⟨g, 0, none⟩) n c)) : n ≤ c := by
  obtain ⟨hl, ⟨e, _⟩ | ⟨g', cap, cur, e, hB, hg, hc, hm, hs, ht⟩⟩ := h.row
  · cases e
  · simp only [Value.slice.injEq, Option.some.injEq, Addr.mk.injEq, and_true] at e
    obtain ⟨rfl, rfl, rfl⟩ := e
    omega
theorem IntZ.wide {w w2 w4 : World} {l : List Int} {v : Value} (h : IntZ w2 w4 l v) (hb : Below w.heap.size w w2) : IntZ w w4 l v := by
  obtain ⟨⟨h1, h2⟩, h3⟩ := h
  refine ⟨⟨h1, h2.imp id ?_⟩, below_then hb h3⟩
  rintro ⟨g, cap, cur, e, hB, r⟩
  exact ⟨g, cap, cur, e, Nat.le_trans hb.size hB, r⟩
theorem zeroIntZ (w : World) : (zeroValue 3).run Try.prog w = .ok (.int .i64 0) w := by
  first | exact Try.zeroValue3 w | kernel_rfl
set_option maxHeartbeats 4000000 in
theorem implDelete (fid : FuncId) (cap : Array Value) (p : Int → Bool) (eg : ∀ args w, (callFunc fid args).run Try.prog w = .ok (.enter fid args) w) (w0 w : World) (hG : PredZ fid cap p w0) (l : List Int) (v : Value) (h : IntZ w0 w l v) (hn : l.length ≤ 1048576) (hf : ∀ i, i < l.length → -9223372036854775808 < l.getD i 0 ∧ l.getD i 0 ≤ 9223372036854775807) :
    Calls Try.prog 115 #[v, .func (.func fid) #[] cap] w fun e w' => ∃ v', e = .returned v' ∧ IntZ w0 w' (l.filter (fun z => !p z)) v' := by
  obtain ⟨sa, c, rfl, hi⟩ := h.ints
  have CI := Lib.hid (implIndexFn fid cap p w0 eg hG sa l.length c (fun i => l.getD i 0) w.heap.size w hi (Nat.le_refl _) h.below hn hf)
  have HG := Lib.hid (fun k W (hk : k < l.length) hb => hG.out (l.getD k 0) W hb (hf k hk).1 (hf k hk).2)
  have H := Lib.hid h
  clear hi h hG hf
  have XS := Lib.hid (fun k (hk : k < l.length) => KeptZ.start (p := p) hk)
  have XF := Lib.hid (fun (h : ∀ i, i < l.length → p (l.getD i 0) = false) => (by
    rw [List.filter_eq_self]
    intro z hz
    obtain ⟨i, hi, e⟩ := List.getElem_of_mem hz
    have := h i hi
    rw [List.getD_eq_getElem?_getD, List.getElem?_eq_getElem hi] at this
    simp only [Option.getD_some] at this
    rw [← e, this]; rfl : l.filter (fun z => !p z) = l))
  obtain ⟨n, hn'⟩ : ∃ n, l.length = n := ⟨_, rfl⟩
  have HN := Lib.hid hn'
  rw [hn'] at CI HG hn XS XF H ⊢
  clear hn'
  go_enter Try.func115, Try.ntmps115
  go_wp2_with fail
  refine CI.out.mono ?_
  rintro e w1 ⟨r, hr, rfl, hb⟩
  have H := Lib.hid (H.out.keep hb)
  clear hb CI
  rcases hr with ⟨rfl, hall⟩ | ⟨k0, rfl, hk0, ht, hbef⟩
  · have X := Lib.hid (XF.out hall)
    clear hall XF XS
    go_wp2
    go_ret
    exact ⟨_, rfl, by rw [X.out]; exact H.out⟩
  · have K0 := Lib.hid (XS.out k0 hk0 hbef ht)
    clear ht hbef XF XS
    obtain ⟨g, c', e0, _⟩ := H.out.parts (by rw [HN.out]; omega)
    rw [HN.out] at e0
    simp only [Value.slice.injEq, true_and] at e0
    obtain ⟨rfl, rfl⟩ := e0
    have hne : ((k0 : Int) == -1) = false := beq_eq_false_iff_ne.2 (by omega)
    go_wp2
    go_loopw [5, 6] (fun s5 s6 wr => ∃ (i j : Nat) (M : List Int), s5 = .int .i64 i ∧ s6 = .int .i64 j ∧ j ≤ n ∧ KeptZ p l j i M ∧ IntZ w0 wr M (.slice (some ⟨g, 0, none⟩) n c)) (fun _ s6 _ => n - (intOf s6).toNat)
    case atStart => exact ⟨k0, k0 + 1, l, rfl, by go_num, by omega, K0.out, H.out⟩
    case round =>
      obtain ⟨i, j, M, rfl, rfl, hj, hK, hM⟩ := hrel
      have hij := hK.lt
      have KK := Lib.hid hK
      have HM := Lib.hid hM
      have hml : M.length = n := by rw [hK.len, HN.out]
      clear hK hM
      by_cases hlt : j < n
      · obtain ⟨cj, _⟩ := HM.out.cell (k := j) (by omega)
        rw [KK.out.high j (Nat.le_refl _) (by rw [HN.out]; omega)] at cj
        have HC := Lib.hid (HG.out j wr hlt HM.out.below)
        obtain ⟨z, hz⟩ : ∃ z, l.getD j 0 = z := ⟨_, rfl⟩
        have EZ := Lib.hid hz
        rw [hz] at cj HC
        clear hz
        cases hp : p z with
        | false =>
          rw [hp] at HC
          have KN := Lib.hid (KK.out.keep (by rw [HN.out]; omega) (by rw [EZ.out]; exact hp))
          rw [EZ.out] at KN
          clear hp
          have hltj := hlt
          go_wp2_with (go_at_fn fid; refine HC.out.mono ?_; rintro e w2 ⟨rfl, b2⟩; have HM2 := Lib.hid (HM.out.keep b2); clear b2; obtain ⟨ci, fi⟩ := HM2.out.cell (k := i) (by omega))
          go_roundw
          case rel => exact ⟨i + 1, j + 1, _, by go_num, by go_num, by omega, KN.out, HM2.out.set (by omega)⟩
          case measure => simp [intOf]; omega
        | true =>
          rw [hp] at HC
          have KN := Lib.hid (KK.out.skip (by rw [HN.out]; omega) (by rw [EZ.out]; exact hp))
          clear hp
          go_wp2_with (go_at_fn fid; refine HC.out.mono ?_; rintro e w2 ⟨rfl, b2⟩; have HM2 := Lib.hid (HM.out.keep b2); clear b2)
          go_roundw
          case rel => exact ⟨i, j + 1, _, rfl, by go_num, by omega, KN.out, HM2.out⟩
          case measure => simp [intOf]; omega
      · obtain rfl : j = n := by omega
        have hin : i < M.length := by omega
        have X := Lib.hid (show M.take i = l.filter (fun z => !p z) from KeptZ.done (by rw [HN.out]; exact KK.out))
        obtain ⟨L', hL1, hL2, hL3⟩ := IntZ.zeros (j - i) i _ _ HM.out (by omega)
        have HL := Lib.hid (hL1.take (i := i) (by omega))
        rw [hL3, X.out] at HL
        have hcl : ∀ ty, (Builtin.clear_ #[39] ty #[.slice (some ⟨g, i, none⟩) (j - i) (c - i)]).run Try.prog wr = .ok (.tuple #[]) (wr.setCells g i (List.replicate (j - i) (.int .i64 0))) :=
          fun ty => by
            have := Lib.run_clear_slice (P := Try.prog) wr 39 3 ty (.int .i64 0) Try.underlying39 zeroIntZ rfl rfl g i (j - i) (c - i) (by omega) (fun t ht => by rw [(HM.out.cell (k := i + t) (by omega)).1]; rfl) (fun t ht => (HM.out.cell (k := i + t) (by omega)).2)
            exact this
        have hcap := HM.out.cap
        have hic : i < c := by omega
        have hic2 : i ≤ c := by omega
        have hci : ¬ c = i := by omega
        clear hL1 hL2 hL3 X
        go_wp2
        go_ret
        exact ⟨_, rfl, HL.out⟩
end Go.Proofs.Ytpekdmocgjjhnaa

/- Indexes up to a number. -/
namespace Go.Proofs.Ytpekdmocgjjhnaa
open Go.RowKit
set_option maxRecDepth 100000
set_option linter.unusedVariables false

def upL (k : Nat) : List Int := (List.range k).map (fun (i : Nat) => (i : Int))
theorem upL_succ (k : Nat) : upL (k + 1) = upL k ++ [(k : Int)] := by unfold upL; rw [List.range_succ, List.map_append]; rfl
theorem upL_len (k : Nat) : (upL k).length = k := by unfold upL; simp
set_option maxHeartbeats 1000000 in
theorem implUpTo (n : Nat) (w : World) (hn : n ≤ 1048576) :
    Calls Try.prog 117 #[.int .i64 (n : Int)] w fun e w' => ∃ v, e = .returned v ∧ IntZ w w' (upL n) v := by
  have NX0 := Lib.hid upL_succ
  have LE := Lib.hid upL_len
  have ST := Lib.hid (IntZ.nil w w (Below.refl _ _))
  go_enter Try.func117, Try.ntmps117
  go_wp2
  go_loopw [3, 6] (fun v i wr => ∃ k : Nat, k ≤ n ∧ i = .int .i64 k ∧ IntZ w wr (upL k) v) (fun _ i _ => n - (intOf i).toNat)
  case atStart => exact ⟨0, Nat.zero_le _, rfl, ST.out⟩
  case round =>
    obtain ⟨k, hk, rfl, hir⟩ := hrel
    have IR := Lib.hid hir
    clear hir
    by_cases hlt : k < n
    · have LN := Lib.hid (show (upL k).length ≤ 1048576 by rw [LE.out]; omega)
      have NX := Lib.hid (NX0.out k)
      go_wp2_with (at_builtin; go_loud (refine wpList_appInt rfl _ _ rfl (k : Int) (upL k) _ _ rfl rfl (IR.out.keep (below1 _ _)) (blk_new _ _ rfl) LN.out ?_))
      intro v' w3 hir
      have IN := Lib.hid (NX.out ▸ hir)
      clear hir
      go_wp2
      go_roundw
      case rel => exact ⟨k + 1, by omega, by go_num, IN.out⟩
      case measure => simp [intOf]; omega
    · obtain rfl : k = n := by omega
      go_wp2
      go_ret
      exact ⟨_, rfl, IR.out⟩
end Go.Proofs.Ytpekdmocgjjhnaa

/- Number subscripts of the program. -/
namespace Go.Proofs.Ytpekdmocgjjhnaa
open Go.RowKit Go.Shelf
set_option maxRecDepth 100000
set_option linter.unusedVariables false

theorem implIsNeg (z : Int) (w : World) : Calls Try.prog 110 #[.int .i64 z] w fun e w' => e = .returned (.bool (decide (z < 0))) ∧ w = w' := by
  by_cases h : z < 0
  · have X := Lib.hid (decide_eq_true h)
    go_enter Try.func110, Try.ntmps110
    go_wp2
    go_ret
    exact ⟨by rw [X.out]; rfl, rfl⟩
  · have X := Lib.hid (decide_eq_false h)
    go_enter Try.func110, Try.ntmps110
    go_wp2
    go_ret
    exact ⟨by rw [X.out]; rfl, rfl⟩
theorem predNeg (w0 : World) : PredZ 110 #[] (fun z => decide (z < 0)) w0 := ⟨fun z W _ _ _ => (implIsNeg z W).mono (by rintro e w' ⟨rfl, rfl⟩; exact ⟨rfl, Below.refl _ _⟩)⟩
theorem neg_fst {c : List Int} {r : Int} (h : FstZ (fun z => decide (z < 0)) (fun i => c.getD i 0) c.length r) : decide (0 ≤ r) = bB (NegIn c) := by
  rcases h with ⟨rfl, h⟩ | ⟨j, rfl, hj, hp, _⟩
  · rw [bB_no (show ¬ NegIn c from fun ⟨i, hi, hn⟩ => by have := h i hi; simp only [decide_eq_false_iff_not] at this; exact this hn)]; rfl
  · rw [bB_yes (show NegIn c from ⟨j, hj, by simpa using hp⟩)]; exact decide_eq_true (by omega)
set_option maxHeartbeats 1000000 in
theorem implHasNeg (c : List Int) (a : Option Addr) (k B : Nat) (w : World) (hs : IntsAt B w a c.length (fun i => c.getD i 0)) (hB : B ≤ w.heap.size) (hn : c.length ≤ 1048576) (hf : ∀ i, i < c.length → -9223372036854775808 < c.getD i 0 ∧ c.getD i 0 ≤ 9223372036854775807) :
    Calls Try.prog 109 #[.slice a c.length k, .func (.func 110) #[] #[]] w fun e w' => e = .returned (.bool (bB (NegIn c))) ∧ Below w.heap.size w w' := by
  have C := Lib.hid (implIndexFn 110 #[] (fun z => decide (z < 0)) w (enters_of Try.func110 (by kernel_rfl) rfl) (predNeg w) a c.length k (fun i => c.getD i 0) B w hs hB (Below.refl _ _) hn hf)
  have X := Lib.hid (fun r h => neg_fst (c := c) (r := r) h)
  obtain ⟨bb, hb⟩ : ∃ b, bB (NegIn c) = b := ⟨_, rfl⟩
  rw [hb] at X ⊢
  clear hb hs hf
  go_enter Try.func109, Try.ntmps109
  go_wp2_with fail
  refine C.out.mono ?_
  rintro e w1 ⟨r, hr, rfl, b⟩
  have E := Lib.hid (X.out r hr)
  have BB := Lib.hid b
  clear hr b C X
  go_wp2
  go_ret
  exact ⟨by rw [← E.out]; rfl, BB.out⟩
set_option maxHeartbeats 1000000 in
theorem implAreNeg (c : List Int) (a : Option Addr) (k B : Nat) (w : World) (hs : IntsAt B w a c.length (fun i => c.getD i 0)) (hn : c.length ≤ 1048576) :
    Calls Try.prog 111 #[.slice a c.length k] w fun e w' => e = .returned (.bool (bB (AllNeg c))) ∧ w = w' := by
  have SA := Lib.hid hs
  have CN := Lib.hid (fun z W => implIsNeg z W)
  have XD := Lib.hid (show AllNeg c ↔ ∀ i, i < c.length → c.getD i 0 < 0 from Iff.rfl)
  obtain ⟨n, hn'⟩ : ∃ n, c.length = n := ⟨_, rfl⟩
  rw [hn'] at SA hn XD ⊢
  obtain ⟨P, hP⟩ : ∃ P, AllNeg c = P := ⟨_, rfl⟩
  rw [hP] at XD ⊢
  obtain ⟨f, hf⟩ : ∃ f : Nat → Int, (fun i => c.getD i 0) = f := ⟨_, rfl⟩
  have XD := Lib.hid (show P ↔ ∀ i, i < n → f i < 0 from hf ▸ XD.out)
  rw [hf] at SA
  clear hs hn' hP hf
  go_enter Try.func111, Try.ntmps111
  go_wp2
  go_loop [7] (fun i => ∃ k : Nat, k ≤ n ∧ i = .int .i64 k ∧ ∀ j, j < k → f j < 0) (fun i => n - (intOf i).toNat)
  case atStart => exact ⟨0, Nat.zero_le _, rfl, fun _ h => absurd h (Nat.not_lt_zero _)⟩
  case round =>
    obtain ⟨k, hk, rfl, hl⟩ := hrel
    have HL := Lib.hid hl
    clear hl
    by_cases hlt : k < n
    · obtain ⟨b, off, rfl, hb, hc⟩ := SA.out k hlt
      obtain ⟨z, hz⟩ : ∃ z, f k = z := ⟨_, rfl⟩
      have EZ := Lib.hid hz
      rw [hz] at hc
      clear hz
      by_cases hp : z < 0
      · have HN := Lib.hid (show ∀ j, j < k + 1 → f j < 0 from fun j hj => by
          by_cases e : j = k
          · subst e; rw [EZ.out]; exact hp
          · exact HL.out j (by omega))
        have CK := Lib.hid (fun W => by have h := CN.out z W; rw [decide_eq_true hp] at h; exact h)
        clear hp
        go_wp2_with (go_at_call 110; refine (CK.out _).mono ?_; rintro e w2 ⟨rfl, rfl⟩)
        go_round
        case rel => exact ⟨k + 1, by omega, by go_num, HN.out⟩
        case measure => simp [intOf]; omega
      · have X := Lib.hid (show ¬ P from fun h => hp (by rw [← EZ.out]; exact XD.out.1 h k hlt))
        have CK := Lib.hid (fun W => by have h := CN.out z W; rw [decide_eq_false hp] at h; exact h)
        clear hp
        go_wp2_with (go_at_call 110; refine (CK.out _).mono ?_; rintro e w2 ⟨rfl, rfl⟩)
        go_ret
        exact ⟨ret_no X.out, rfl⟩
    · obtain rfl : k = n := by omega
      have X := Lib.hid (show P from XD.out.2 HL.out)
      go_wp2
      go_ret
      exact ⟨ret_yes X.out, rfl⟩
set_option maxHeartbeats 1000000 in
theorem implIdxZ (z : Int) (a : Option Addr) (n k B : Nat) (f : Nat → Int) (w : World) (hs : IntsAt B w a n f) (hn : n ≤ 1048576) :
    Calls Try.prog 121 #[.slice a n k, .int .i64 z] w fun e w' => (∃ r : Int, e = .returned (.int .i64 r) ∧ (0 ≤ r ↔ ∃ i, i < n ∧ f i = z)) ∧ w = w' := by
  have SA := Lib.hid hs
  clear hs
  go_enter Try.func121, Try.ntmps121
  go_wp2
  go_loop [8] (fun i => ∃ k : Nat, k ≤ n ∧ i = .int .i64 k ∧ ∀ j, j < k → f j ≠ z) (fun i => n - (intOf i).toNat)
  case atStart => exact ⟨0, Nat.zero_le _, rfl, fun _ h => absurd h (Nat.not_lt_zero _)⟩
  case round =>
    obtain ⟨k, hk, rfl, hl⟩ := hrel
    have HL := Lib.hid hl
    clear hl
    by_cases hlt : k < n
    · obtain ⟨b, off, rfl, hb, hc⟩ := SA.out k hlt
      by_cases hp : f k = z
      · have X := Lib.hid (show ∃ i, i < n ∧ f i = z from ⟨k, hlt, hp⟩)
        rw [hp] at hc
        clear hp
        go_wp2
        go_ret
        exact ⟨⟨_, rfl, ⟨fun _ => X.out, fun _ => by omega⟩⟩, rfl⟩
      · have hp' : (z == f k) = false := beq_eq_false_iff_ne.2 (fun e => hp e.symm)
        have HN := Lib.hid (show ∀ i, i < k + 1 → f i ≠ z from fun i hi => by
          by_cases e : i = k
          · subst e; exact hp
          · exact HL.out i (by omega))
        clear hp
        go_wp2
        go_round
        case rel => exact ⟨k + 1, by omega, by go_num, HN.out⟩
        case measure => simp [intOf]; omega
    · obtain rfl : k = n := by omega
      have X := Lib.hid (show ¬ ∃ i, i < k ∧ f i = z from fun ⟨i, hi, h⟩ => HL.out i hi h)
      go_wp2
      go_ret
      exact ⟨⟨-1, rfl, ⟨fun h => by omega, fun h => absurd h X.out⟩⟩, rfl⟩
set_option maxHeartbeats 1000000 in
theorem implHasZ (c : List Int) (z : Int) (a : Option Addr) (k B : Nat) (w : World) (hs : IntsAt B w a c.length (fun i => c.getD i 0)) (hn : c.length ≤ 1048576) :
    Calls Try.prog 119 #[.slice a c.length k, .int .i64 z] w fun e w' => e = .returned (.bool (bB (HasZ c z))) ∧ w = w' := by
  have C := Lib.hid (show Calls Try.prog 121 #[.slice a c.length k, .int .i64 z] w (fun e w' => (∃ r : Int, e = .returned (.int .i64 r) ∧ (0 ≤ r ↔ HasZ c z)) ∧ w = w') from implIdxZ z a c.length k B (fun i => c.getD i 0) w hs hn)
  obtain ⟨P, hP⟩ : ∃ P, HasZ c z = P := ⟨_, rfl⟩
  rw [hP] at C ⊢
  clear hP hs
  go_enter Try.func119, Try.ntmps119
  go_wp2_with fail
  refine C.out.mono ?_
  rintro e w1 ⟨⟨r, rfl, hr⟩, rfl⟩
  have E := Lib.hid (show decide (0 ≤ r) = bB P from by
    by_cases h : 0 ≤ r
    · rw [decide_eq_true h, bB_yes (hr.1 h)]
    · rw [decide_eq_false h, bB_no (fun q => h (hr.2 q))])
  clear hr C
  go_wp2
  go_ret
  exact ⟨by rw [← E.out]; rfl, rfl⟩
set_option maxHeartbeats 1000000 in
theorem implExcl (c : List Int) (z : Int) (bx : Nat) (a : Option Addr) (k B : Nat) (w : World) (hx : w.heap[bx]? = some (.cells #[.slice a c.length k] 39 (0, 0))) (hs : IntsAt B w a c.length (fun i => c.getD i 0)) (hn : c.length ≤ 1048576) (h0 : -9223372036854775808 < z) (h1 : z ≤ 9223372036854775807) :
    Calls Try.prog 118 #[.int .i64 z, .pointer (some ⟨bx, 0, none⟩)] w fun e w' => e = .returned (.bool (bB (HasZ c (-z)))) ∧ w = w' := by
  have C := Lib.hid (implHasZ c (-z) a k B w hs hn)
  have hc : w.cell? ⟨bx, 0, none⟩ = some (.slice a c.length k) := cellOf hx rfl
  obtain ⟨bb, hb⟩ : ∃ b, bB (HasZ c (-z)) = b := ⟨_, rfl⟩
  rw [hb] at C ⊢
  clear hb hs hx
  go_enter Try.func118, Try.ntmps118
  go_wp2_with fail
  refine C.out.mono ?_
  rintro e w1 ⟨rfl, rfl⟩
  go_wp2
  go_ret
  exact ⟨rfl, rfl⟩
theorem exZ_filter (c : List Int) (n : Nat) (f : Nat → Int) (hf : ∀ i, i < n → f i = i) : (posZ f n).filter (fun z => !bB (HasZ c (-z))) = exZ c n := by
  have e : posZ f n = (List.range n).map (fun (i : Nat) => (i : Int) + 1) := by
    unfold posZ
    exact List.map_congr_left (fun i hi => by rw [hf i (List.mem_range.1 hi)])
  rw [e, List.filter_map]
  rfl
set_option maxHeartbeats 2000000 in
theorem implExcept (c : List Int) (n : Nat) (a : Option Addr) (k B : Nat) (w : World) (hs : IntsAt B w a c.length (fun i => c.getD i 0)) (hB : B ≤ w.heap.size) (hc : c.length ≤ 1048576) (hn : n ≤ 1048575) :
    Calls Try.prog 112 #[.slice a c.length k, .int .i64 (n : Int)] w fun e w' => ∃ v, e = .returned v ∧ IntZ w w' (exZ c n) v := by
  have UP := Lib.hid (fun W => implUpTo n W (by omega))
  have PS := Lib.hid (fun (sa : Option Addr) (cc : Nat) (W : World) (h : IntsAt W.heap.size W sa n (fun i => (upL n).getD i 0)) => implPos sa n cc (fun i => (upL n).getD i 0) W.heap.size W h (Nat.le_refl _) (by omega) (fun i hi => by unfold upL; simp [List.getD_eq_getElem?_getD, hi]; omega))
  have LU := Lib.hid (upL_len n)
  have PRE := Lib.hid (fun (w2 : World) (hb : Below w.heap.size w w2) (hx : w2.heap[w.heap.size]? = some (.cells #[.slice a c.length k] 39 (0, 0))) => (⟨fun z W hW h0 h1 => (implExcl c z w.heap.size a k B W (by rw [hW.block _ (Array.getElem?_eq_some_iff.1 hx).1]; exact hx) ((hs.below (hb.mono hB)).below (hW.mono (Nat.le_trans hB hb.size))) hc h0 h1).mono (by rintro e w' ⟨rfl, rfl⟩; exact ⟨rfl, Below.refl _ _⟩)⟩ : PredZ 118 #[.pointer (some ⟨w.heap.size, 0, none⟩)] (fun z => bB (HasZ c (-z))) w2))
  have DL := Lib.hid (fun (w2 w3 : World) (v : Value) (hG : PredZ 118 #[.pointer (some ⟨w.heap.size, 0, none⟩)] (fun z => bB (HasZ c (-z))) w2) (h : IntZ w2 w3 (posZ (fun i => (upL n).getD i 0) n) v) => (by
    have g := implDelete 118 #[.pointer (some ⟨w.heap.size, 0, none⟩)] (fun z => bB (HasZ c (-z))) (enters_of Try.func118 (by kernel_rfl) rfl) w2 w3 hG _ v h (by rw [posZ_len]; omega) (fun i hi => by rw [posZ_len] at hi; unfold posZ upL; simp [List.getD_eq_getElem?_getD, hi]; omega)
    rw [exZ_filter c n _ (fun i hi => by unfold upL; simp [List.getD_eq_getElem?_getD, hi])] at g
    exact g : Calls Try.prog 115 #[v, .func (.func 118) #[] #[.pointer (some ⟨w.heap.size, 0, none⟩)]] w3 (fun e w' => ∃ v', e = .returned v' ∧ IntZ w2 w' (exZ c n) v')))
  clear hs
  go_enter Try.func112, Try.ntmps112
  go_wp2_with fail
  obtain ⟨w1, hw1⟩ : ∃ W, w.alloc (.cells #[.slice a c.length k] 39) = W := ⟨_, rfl⟩
  have B1 := Lib.hid (show Below w.heap.size w w1 from hw1 ▸ below1 w _)
  have KX := Lib.hid (show w1.heap[w.heap.size]? = some (.cells #[.slice a c.length k] 39 (0, 0)) from hw1 ▸ blk_new w _ rfl)
  rw [hw1]
  clear hw1
  refine (UP.out _).mono ?_
  rintro e w2 ⟨v2, rfl, hz2⟩
  obtain ⟨sa, cc, rfl, hi⟩ := hz2.ints
  rw [LU.out] at hi ⊢
  have B2 := Lib.hid (below_then B1.out hz2.below)
  have KX := Lib.hid (blk_below hz2.below KX.out)
  have HI := Lib.hid hi
  clear hz2 hi
  go_wp2_with fail
  refine (PS.out _ _ _ HI.out).mono ?_
  rintro e w3 ⟨v3, rfl, hz3⟩
  have H3 := Lib.hid hz3
  clear hz3
  go_wp2_with fail
  refine (DL.out w2 w3 v3 (PRE.out w2 B2.out KX.out) H3.out).mono ?_
  rintro e w4 ⟨v4, rfl, hz4⟩
  have H4 := Lib.hid (hz4.wide B2.out)
  clear hz4
  go_wp2
  go_ret
  exact ⟨_, rfl, H4.out⟩
end Go.Proofs.Ytpekdmocgjjhnaa

/- Number and logical subscripts of the program. -/
namespace Go.Proofs.Ytpekdmocgjjhnaa
open Go.RowKit
set_option maxRecDepth 100000
set_option linter.unusedVariables false

set_option maxHeartbeats 2000000 in
theorem implProblem (l : List It) (a : Option Addr) (c lo hi : Nat) (w : World) (hI : ItemsAt lo hi w a l) (hhi : hi ≤ w.heap.size) (hn : l.length ≤ 1048576) :
    Calls Try.prog 106 #[.slice a l.length c] w fun e w' => e = .returned (.string (nmE l)) ∧ Below w.heap.size w w' := by
  have AI := Lib.hid (fun (k : Nat) (W : World) (hk : k < l.length) (hb : Below w.heap.size w W) => (hI.below hb hhi).at_ hk)
  have XO := Lib.hid (nmE_ok l)
  have XF := Lib.hid (nmE_frac l)
  have XU := Lib.hid (nmE_out l)
  obtain ⟨n, hn'⟩ : ∃ n, l.length = n := ⟨_, rfl⟩
  rw [hn'] at AI XO XF XU hn ⊢
  obtain ⟨R, hR⟩ : ∃ R, nmE l = R := ⟨_, rfl⟩
  rw [hR] at XO XF XU ⊢
  clear hI hn' hR
  go_enter Try.func106, Try.ntmps106
  go_wp2
  go_loopw [7] (fun i wr => ∃ k : Nat, k ≤ n ∧ i = .int .i64 k ∧ (∀ j, j < k → OkN (l.getD j noI)) ∧ Below w.heap.size w wr) (fun i _ => n - (intOf i).toNat)
  case atStart => exact ⟨0, Nat.zero_le _, rfl, (fun _ h => absurd h (Nat.not_lt_zero _)), Below.refl _ _⟩
  case round =>
    obtain ⟨k, hk, rfl, hne, hb⟩ := hrel
    have NE := Lib.hid hne
    have BW := Lib.hid hb
    clear hne hb
    by_cases hlt : k < n
    · obtain ⟨ba, off, rfl, hbB, c0, c1, c2'⟩ := AI.out k wr hlt BW.out
      have c2 : wr.cell? ⟨ba, off + k * 3 + 2, none⟩ = some (.string (l.getD k noI).t) := c2'
      clear c2'
      obtain ⟨x, hx⟩ : ∃ x, l.getD k noI = x := ⟨_, rfl⟩
      have EX := Lib.hid hx
      rw [hx] at c0 c1 c2
      clear hx
      have XF1 := Lib.hid (fun h1 => XF.out k hlt NE.out (by rw [EX.out]; exact h1))
      have XU1 := Lib.hid (show x.d ≤ 1 → (x.n < -40 ∨ 40 < x.n) → R = oobB from fun h1 h2 => XU.out k hlt NE.out (by rw [EX.out]; omega) (by rw [EX.out]; exact h2))
      by_cases h1 : 1 < x.d
      · have X := Lib.hid (XF1.out h1)
        have BN := Lib.hid (BW.out.alloc BW.out.size (.cells #[.int .i64 x.n, .int .i64 x.d, .string x.t] 63))
        clear XF XU XF1 XU1 XO
        go_wp2
        go_ret
        exact ⟨by rw [X.out]; rfl, BN.out⟩
      · have X2 := Lib.hid (show (x.n < -40 ∨ 40 < x.n) → R = oobB from fun h2 => XU1.out (by omega) h2)
        have BN := Lib.hid (BW.out.alloc BW.out.size (.cells #[.int .i64 x.n, .int .i64 x.d, .string x.t] 63))
        clear XF XU XF1 XU1
        by_cases h2 : x.n < -40
        · have X := Lib.hid (X2.out (.inl h2))
          clear X2 XO
          go_wp2
          go_ret
          exact ⟨by rw [X.out]; rfl, BN.out⟩
        · by_cases h3 : 40 < x.n
          · have X := Lib.hid (X2.out (.inr h3))
            clear X2 XO
            go_wp2
            go_ret
            exact ⟨by rw [X.out]; rfl, BN.out⟩
          · have OK := Lib.hid (show ∀ j, j < k + 1 → OkN (l.getD j noI) from fun j hj => by
              by_cases e : j = k
              · subst e; rw [EX.out]; exact ⟨by omega, by omega, by omega⟩
              · exact NE.out j (by omega))
            clear X2
            go_wp2
            go_roundw
            case rel => exact ⟨k + 1, by omega, by go_num, OK.out, BN.out⟩
            case measure => simp [intOf]; omega
    · obtain rfl : k = n := by omega
      have X := Lib.hid (XO.out NE.out)
      go_wp2
      go_ret
      exact ⟨by rw [X.out]; rfl, BW.out⟩
theorem neq_noI {w' : World} {x y : It} {X Y : Operand} (h : x ≠ y) :
    (do eqGuard .neq 63 X Y (.agg #[.int .i64 x.n, .int .i64 x.d, .string x.t]) (.agg #[.int .i64 y.n, .int .i64 y.d, .string y.t]); binOp .neq 63 (.agg #[.int .i64 x.n, .int .i64 x.d, .string x.t]) (.agg #[.int .i64 y.n, .int .i64 y.d, .string y.t]) : Sem Value).run Try.prog w' = .ok (.bool true) w' := by
  obtain ⟨xn, xd, xt⟩ := x
  obtain ⟨yn, yd, yt⟩ := y
  have hm : Try.prog.eqGuardType Try.prog.depth 63 = false := by kernel_rfl
  rw [Sem.run_bind, run_eqGuard_agg (hm := hm)]
  show (binOp .neq 63 _ _).run Try.prog w' = _
  rw [run_neq_struct]
  by_cases h0 : xn = yn
  · subst h0
    by_cases h1 : xd = yd
    · subst h1
      have h2 : ¬ xt.toList = yt.toList := fun e => h (by rw [toList_inj e])
      simp [go_sem, h2]
    · simp [go_sem, h1]
  · simp [go_sem, h0]
theorem zero_iff {x : It} (h : NumIt x) (o : OkN x) : x = ⟨0, 1, ⟨#[]⟩⟩ ↔ ¬ (x.n ≠ 0 ∨ x.d = 0) := by
  obtain ⟨n, d, t⟩ := x
  have h1 : t = ⟨#[]⟩ := h.t
  have h2 : 0 ≤ d := h.d0
  have h3 : d ≤ 1 := o.1
  constructor
  · intro e; cases e; rintro (h | h) <;> revert h <;> decide
  · intro e
    have e1 : n = 0 := Classical.byContradiction (fun q => e (.inl q))
    have e2 : ¬ d = 0 := fun q => e (.inr q)
    have e3 : d = 1 := by omega
    rw [h1, e1, e3]
set_option maxHeartbeats 2000000 in
theorem implZeros (l : List It) (a : Option Addr) (c lo hi : Nat) (w : World) (hI : ItemsAt lo hi w a l) (hhi : hi ≤ w.heap.size) (hn : l.length ≤ 1048576) (hnum : ∀ i, i < l.length → NumIt (l.getD i noI)) (hok : ∀ i, i < l.length → OkN (l.getD i noI)) :
    Calls Try.prog 108 #[.slice a l.length c] w fun e w' => ∃ v, e = .returned v ∧ IntZ w w' (nmC l l.length) v := by
  have AI := Lib.hid (fun (k : Nat) (W : World) (hk : k < l.length) (hb : Below w.heap.size w W) => (hI.below hb hhi).at_ hk)
  have ZI := Lib.hid (fun k (hk : k < l.length) => zero_iff (hnum k hk) (hok k hk))
  have YS := Lib.hid (fun k h => nmC_yes (l := l) (k := k) h)
  have NS := Lib.hid (fun k h => nmC_no (l := l) (k := k) h)
  have LE := Lib.hid (nmC_len l)
  have ST := Lib.hid (show IntZ w w (nmC l 0) (.slice none 0 0) from IntZ.nil w w (Below.refl _ _))
  have CM := Lib.hid (fun W => (by
    have h := implMake 0 1 W (by decide) (by decide)
    rw [mkI_int (n := 0) (by decide) (by decide)] at h
    exact h : Calls Try.prog 113 #[.int .i64 0, .int .i64 1] W (fun e w' => e = .returned (.agg #[.int .i64 0, .int .i64 1, .string ⟨#[]⟩]) ∧ Below W.heap.size W w')))
  obtain ⟨n, hn'⟩ : ∃ n, l.length = n := ⟨_, rfl⟩
  rw [hn'] at AI ZI hn ⊢
  clear hI hn' hnum hok
  go_enter Try.func108, Try.ntmps108
  go_wp2
  go_loopw [3, 8] (fun v i wr => ∃ k : Nat, k ≤ n ∧ i = .int .i64 k ∧ IntZ w wr (nmC l k) v) (fun _ i _ => n - (intOf i).toNat)
  case atStart => exact ⟨0, Nat.zero_le _, rfl, ST.out⟩
  case round =>
    obtain ⟨k, hk, rfl, hir⟩ := hrel
    have IR := Lib.hid hir
    clear hir
    by_cases hlt : k < n
    · obtain ⟨ba, off, rfl, hbB, c0, c1, c2'⟩ := AI.out k wr hlt IR.out.below
      have c2 : wr.cell? ⟨ba, off + k * 3 + 2, none⟩ = some (.string (l.getD k noI).t) := c2'
      have LN := Lib.hid (show (nmC l k).length ≤ 1048576 by have := LE.out k; omega)
      have Z1 := ZI.out k hlt
      have Y1 := Lib.hid (YS.out k)
      have N1 := Lib.hid (NS.out k)
      obtain ⟨x, hx⟩ : ∃ x, l.getD k noI = x := ⟨_, rfl⟩
      rw [hx] at c0 c1 c2 Z1 Y1 N1
      clear hx c2'
      obtain ⟨w2, hw2⟩ : ∃ W, wr.alloc (.cells #[.int .i64 x.n, .int .i64 x.d, .string x.t] 63) = W := ⟨_, rfl⟩
      have B2 := Lib.hid (show Below wr.heap.size wr w2 from hw2 ▸ below1 wr _)
      have K2 := Lib.hid (show w2.heap[wr.heap.size]? = some (.cells #[.int .i64 x.n, .int .i64 x.d, .string x.t] 63 (0, 0)) from hw2 ▸ blk_new wr _ rfl)
      have EW := Lib.hid hw2
      have H := Lib.hid (show HeldC w2 w2 [(wr.heap.size, 63, #[.int .i64 x.n, .int .i64 x.d, .string x.t])] from heldC_one (Below.refl _ _) K2.out)
      clear hw2
      by_cases hx0 : x = ⟨0, 1, ⟨#[]⟩⟩
      · have NX := Lib.hid (N1.out (Z1.1 hx0))
        have HX0 := Lib.hid hx0
        clear Z1 Y1 N1 hx0
        go_upto_region 5 with (fail)
        rw [EW.out]
        refine run_region (ops := (opsOf Try.f108 5)) (S := fun w' => HeldC w2 w' ([(wr.heap.size, 63, #[.int .i64 x.n, .int .i64 x.d, .string x.t])])) [(0, true), (1, false), (2, true)] (by kernel_rfl) (by kernel_rfl) (by kernel_rfl) (by kernel_rfl) (by kernel_rfl) (fun _ _ _ _ _ h => h) (heldC_drew H.out) ?_
        have H := Lib.hid (heldC_drew H.out)
        refine runC_itm (b := wr.heap.size) (show opAt (opsOf Try.f108 5) 0 = some (some 12, .load 63 (.tmp 5), none) from by kernel_rfl) (by kernel_rfl) (by kernel_rfl) (by kernel_rfl) (List.Mem.head _) ?_
        refine run_call (args := [.int .i64 0, .int .i64 1]) (show opAt (opsOf Try.f108 5) 1 = some (some 13, .call { callee := .value (.func 113), args := [(.const (.int .i64 0)), (.const (.int .i64 1))].toArray, argTypes := [3, 3].toArray }, none) from by kernel_rfl) (by kernel_rfl) (by kernel_rfl) (by kernel_rfl) (by kernel_rfl) ?_
        refine (CM.out _).mono ?_
        rintro en rw1 ⟨rfl, hb⟩
        refine ⟨_, rfl, heldC_call H.out hb, ?_⟩
        have H := Lib.hid (heldC_call H.out hb)
        clear hb
        refine run_same (v := .bool false) (p := .agg #[.int .i64 x.n, .int .i64 x.d, .string x.t]) (q := .agg #[.int .i64 0, .int .i64 1, .string ⟨#[]⟩]) (show opAt (opsOf Try.f108 5) 2 = some (some 14, .binOp .neq 63 (.tmp 12) (.tmp 13) 63, none) from by kernel_rfl) (by kernel_rfl) (by kernel_rfl) (by kernel_rfl) (by kernel_rfl) (fun w' => neq_item (x := x) (y := ⟨0, 1, ⟨#[]⟩⟩) HX0.out) ?_
        refine run_done ?_
        simp only [putAll, Act.put, List.setIfInBounds_toArray, List.set_cons_zero, List.set_cons_succ]
        have HB := Lib.hid H.out.1
        have KX := Lib.hid (heldC_at H.out (List.Mem.head _))
        clear H
        have IN := Lib.hid (NX.out ▸ (IR.out.keep (below_then B2.out HB.out)))
        go_wp2
        go_roundw
        case rel => exact ⟨k + 1, by omega, by go_num, IN.out⟩
        case measure => simp [intOf]; omega
      · have NX := Lib.hid (Y1.out (Classical.byContradiction (fun q => hx0 (Z1.2 q))))
        have HX0 := Lib.hid hx0
        clear Z1 Y1 N1 hx0
        go_upto_region 5 with (fail)
        rw [EW.out]
        refine run_region (ops := (opsOf Try.f108 5)) (S := fun w' => HeldC w2 w' ([(wr.heap.size, 63, #[.int .i64 x.n, .int .i64 x.d, .string x.t])])) [(0, true), (1, false), (2, true)] (by kernel_rfl) (by kernel_rfl) (by kernel_rfl) (by kernel_rfl) (by kernel_rfl) (fun _ _ _ _ _ h => h) (heldC_drew H.out) ?_
        have H := Lib.hid (heldC_drew H.out)
        refine runC_itm (b := wr.heap.size) (show opAt (opsOf Try.f108 5) 0 = some (some 12, .load 63 (.tmp 5), none) from by kernel_rfl) (by kernel_rfl) (by kernel_rfl) (by kernel_rfl) (List.Mem.head _) ?_
        refine run_call (args := [.int .i64 0, .int .i64 1]) (show opAt (opsOf Try.f108 5) 1 = some (some 13, .call { callee := .value (.func 113), args := [(.const (.int .i64 0)), (.const (.int .i64 1))].toArray, argTypes := [3, 3].toArray }, none) from by kernel_rfl) (by kernel_rfl) (by kernel_rfl) (by kernel_rfl) (by kernel_rfl) ?_
        refine (CM.out _).mono ?_
        rintro en rw1 ⟨rfl, hb⟩
        refine ⟨_, rfl, heldC_call H.out hb, ?_⟩
        have H := Lib.hid (heldC_call H.out hb)
        clear hb
        refine run_same (v := .bool true) (p := .agg #[.int .i64 x.n, .int .i64 x.d, .string x.t]) (q := .agg #[.int .i64 0, .int .i64 1, .string ⟨#[]⟩]) (show opAt (opsOf Try.f108 5) 2 = some (some 14, .binOp .neq 63 (.tmp 12) (.tmp 13) 63, none) from by kernel_rfl) (by kernel_rfl) (by kernel_rfl) (by kernel_rfl) (by kernel_rfl) (fun w' => neq_noI (x := x) (y := ⟨0, 1, ⟨#[]⟩⟩) HX0.out) ?_
        refine run_done ?_
        simp only [putAll, Act.put, List.setIfInBounds_toArray, List.set_cons_zero, List.set_cons_succ]
        have HB := Lib.hid H.out.1
        have KX := Lib.hid (heldC_at H.out (List.Mem.head _))
        clear H
        have IK := Lib.hid (IR.out.keep (below_then B2.out HB.out))
        have k0 := cellOf KX.out (i := 0) rfl
        go_wp2_with (at_builtin; go_loud (refine wpList_appInt rfl _ _ rfl x.n (nmC l k) _ _ rfl rfl (IK.out.keep (below1 _ _)) (blk_new _ _ rfl) LN.out ?_))
        intro v' w3 hir
        have IN := Lib.hid (NX.out ▸ hir)
        clear hir
        go_wp2
        go_roundw
        case rel => exact ⟨k + 1, by omega, by go_num, IN.out⟩
        case measure => simp [intOf]; omega
    · obtain rfl : k = n := by omega
      go_wp2
      go_ret
      exact ⟨_, rfl, IR.out⟩
/-- Positions and a problem. -/
def ResZ (l : List Int) (s : ByteArray) (w : World) (e : Ending) (w' : World) : Prop := ∃ v, e = .returned (.tuple #[v, .string s]) ∧ IntZ w w' l v
theorem resZ_nil {l : List Int} {s : ByteArray} {w w' : World} (hl : l = []) (hb : Below w.heap.size w w') : ResZ l s w (.returned (.tuple #[.slice none 0 0, .string s])) w' := by
  subst hl; exact ⟨_, rfl, IntZ.nil w w' hb⟩
set_option maxHeartbeats 4000000 in
theorem implNumSub (l : List It) (a : Option Addr) (c lo hi n : Nat) (nmv : Value) (w : World) (hI : ItemsAt lo hi w a l) (hhi : hi ≤ w.heap.size) (hl : l.length ≤ 1048576) (hn : n ≤ 40) (hnum : ∀ i, i < l.length → NumIt (l.getD i noI)) :
    Calls Try.prog 107 #[.slice a l.length c, .int .i64 (n : Int), nmv] w (ResZ (nuZ l n) (nuS l) w) := by
  have CP := Lib.hid (implProblem l a c lo hi w hI hhi hl)
  by_cases he : nmE l = ⟨#[]⟩
  · have hok := nmE_all l he
    have CZ := Lib.hid (fun (W : World) (hb : Below w.heap.size w W) => implZeros l a c lo hi W (hI.below hb hhi) (Nat.le_trans hhi hb.size) hl hnum hok)
    obtain ⟨C, hC⟩ : ∃ C, nmC l l.length = C := ⟨_, rfl⟩
    have hin : ∀ i, i < C.length → -40 ≤ C.getD i 0 ∧ C.getD i 0 ≤ 40 := fun i hi => by
      rw [← hC] at hi ⊢
      obtain ⟨j, h1, h2, _⟩ := nmC_mem.1 (getDZ_mem hi)
      have := hok j h1
      obtain ⟨_, h4, h5⟩ := this
      omega
    have hcl : C.length ≤ 1048576 := by rw [← hC]; exact Nat.le_trans (nmC_len l _) hl
    obtain ⟨e1, e2⟩ := nu_ok n he
    rw [hC] at e1 e2 CZ
    rw [e1, e2]
    rw [he] at CP
    have CH := Lib.hid (fun (sa : Option Addr) (k : Nat) (W : World) (h : IntsAt W.heap.size W sa C.length (fun i => C.getD i 0)) => implHasNeg C sa k W.heap.size W h (Nat.le_refl _) hcl (fun i hi => by have := hin i hi; omega))
    have CA := Lib.hid (fun (sa : Option Addr) (k : Nat) (W : World) (h : IntsAt W.heap.size W sa C.length (fun i => C.getD i 0)) => implAreNeg C sa k W.heap.size W h hcl)
    have CX := Lib.hid (fun (sa : Option Addr) (k : Nat) (W : World) (h : IntsAt W.heap.size W sa C.length (fun i => C.getD i 0)) => implExcept C n sa k W.heap.size W h (Nat.le_refl _) hcl (by omega))
    have PL := Lib.hid (fun h => nm_plain (c := C) n h)
    have MX := Lib.hid (fun h h2 => nm_mixed (c := C) n h h2)
    have MI := Lib.hid (fun h h2 => nm_minus (c := C) n h h2)
    clear hI hnum he hok hin hC e1 e2 hhi hl
    go_enter Try.func107, Try.ntmps107
    go_wp2_with fail
    refine CP.out.mono ?_
    rintro e w1 ⟨rfl, b1⟩
    have B1 := Lib.hid b1
    clear b1
    go_wp2_with fail
    refine (CZ.out _ B1.out).mono ?_
    rintro e w2 ⟨v, rfl, hz⟩
    obtain ⟨sa, k, rfl, hi'⟩ := hz.ints
    have HZ := Lib.hid hz
    have HI := Lib.hid hi'
    clear hz hi' CZ
    go_wp2_with fail
    refine (CH.out _ _ _ HI.out).mono ?_
    rintro e w3 ⟨rfl, b3⟩
    have HZ := Lib.hid ((HZ.out.keep b3).wide B1.out)
    have HI := Lib.hid ((HI.out.below b3).mono b3.size)
    clear b3 CH
    by_cases h1 : NegIn C
    · rw [bB_yes h1]
      go_wp2_with fail
      refine (CA.out _ _ _ HI.out).mono ?_
      rintro e w4 ⟨rfl, rfl⟩
      by_cases h2 : AllNeg C
      · rw [bB_yes h2]
        obtain ⟨x1, x2⟩ := MI.out h1 h2
        have X1 := Lib.hid x1
        have X2 := Lib.hid x2
        clear x1 x2 h1 h2 MI MX PL CA
        go_wp2_with fail
        refine (CX.out _ _ _ HI.out).mono ?_
        rintro e w5 ⟨v5, rfl, hz5⟩
        have H5 := Lib.hid (hz5.wide HZ.out.below)
        clear hz5
        go_wp2
        go_ret2
        exact ⟨_, by rw [X2.out]; rfl, by rw [X1.out]; exact H5.out⟩
      · rw [bB_no h2]
        obtain ⟨x1, x2⟩ := MX.out h1 h2
        have X1 := Lib.hid x1
        have X2 := Lib.hid x2
        have BZ := Lib.hid HZ.out.below
        clear x1 x2 h1 h2 MI MX PL CA CX
        go_wp2
        go_ret2
        rw [X2.out]
        exact resZ_nil X1.out BZ.out
    · rw [bB_no h1]
      obtain ⟨x1, x2⟩ := PL.out h1
      have X1 := Lib.hid x1
      have X2 := Lib.hid x2
      clear x1 x2 h1 MI MX PL CA CX
      go_wp2
      go_ret2
      exact ⟨_, by rw [X2.out]; rfl, by rw [X1.out]; exact HZ.out⟩
  · obtain ⟨e1, e2⟩ := nu_bad n he
    rw [e1, e2]
    obtain ⟨E, hE⟩ : ∃ E, nmE l = E := ⟨_, rfl⟩
    rw [hE] at he CP ⊢
    have hRb : (E.toList == []) = false := by have h := str_not he; rw [ByteArray.toList_eq ⟨#[]⟩] at h; exact h
    clear hI hnum he e1 e2 hE hhi hl
    go_enter Try.func107, Try.ntmps107
    go_wp2_with fail
    refine CP.out.mono ?_
    rintro e w1 ⟨rfl, b1⟩
    have B1 := Lib.hid b1
    clear b1 CP
    go_wp2
    go_ret2
    exact resZ_nil rfl B1.out
end Go.Proofs.Ytpekdmocgjjhnaa

/- Logical subscripts of the program. -/
namespace Go.Proofs.Ytpekdmocgjjhnaa
open Go.RowKit
set_option maxRecDepth 100000
set_option linter.unusedVariables false

theorem lgM_pos {l : List It} {n : Nat} (h : ¬ l.length = 0) : lgM l n = max n l.length := by unfold lgM; rw [if_neg h]
theorem lgM_zero {l : List It} {n : Nat} (h : l.length = 0) : lgM l n = 0 := by unfold lgM; rw [if_pos h]
theorem truth_cases (x : It) : truthI x = 0 ∨ truthI x = 1 ∨ truthI x = 2 := by unfold truthI; split <;> (try split) <;> omega
set_option maxHeartbeats 4000000 in
theorem implLgcSub (l : List It) (a : Option Addr) (c lo hi n : Nat) (nmv : Value) (w : World) (hI : ItemsAt lo hi w a l) (hhi : hi ≤ w.heap.size) (hl : l.length ≤ 40) (hn : n ≤ 40) (hnum : ∀ i, i < l.length → NumIt (l.getD i noI)) :
    Calls Try.prog 104 #[.slice a l.length c, .int .i64 (n : Int), nmv] w (ResZ (lgP l (lgM l n)) ⟨#[]⟩ w) := by
  by_cases h0 : l.length = 0
  · have e0 : lgP l (lgM l n) = [] := by rw [lgM_zero h0]; rfl
    rw [e0, h0]
    go_enter Try.func104, Try.ntmps104
    go_wp2
    go_ret2
    exact resZ_nil rfl (Below.refl _ _)
  · have AI := Lib.hid (fun (k : Nat) (W : World) (hk : k < l.length) (hb : Below w.heap.size w W) => (hI.below hb hhi).at_ hk)
    have CT := Lib.hid (fun (k : Nat) (W : World) (hk : k < l.length) => implTruth (l.getD k noI) W (hnum k hk))
    have LE := Lib.hid (lgP_len l)
    have PM := Lib.hid (fun k h => lgP_miss (l := l) (k := k) h)
    have PY := Lib.hid (fun k h => lgP_yes (l := l) (k := k) h)
    have PN := Lib.hid (fun k h => lgP_no (l := l) (k := k) h)
    have ST := Lib.hid (show IntZ w w (lgP l 0) (.slice none 0 0) from IntZ.nil w w (Below.refl _ _))
    have EQM := lgM_pos (n := n) h0
    obtain ⟨m, hm⟩ : ∃ m, lgM l n = m := ⟨_, rfl⟩
    rw [hm] at EQM ⊢
    have hm40 : m ≤ 40 := by omega
    obtain ⟨L, hL⟩ : ∃ L, l.length = L := ⟨_, rfl⟩
    rw [hL] at AI CT PM PY PN EQM hl h0 ⊢
    have hLp : 0 < L := by omega
    have h0b : ((L : Int) == 0) = false := beq_eq_false_iff_ne.2 (by omega)
    have hcase : (n < L ∧ m = L) ∨ (¬ n < L ∧ m = n) := by omega
    clear hI hhi hnum hm hL EQM
    rcases hcase with ⟨hlt0, rfl⟩ | ⟨hlt0, rfl⟩
    · go_enter Try.func104, Try.ntmps104
      go_wp2
      go_loopw [8, 17] (fun v i wr => ∃ k : Nat, k ≤ m ∧ i = .int .i64 k ∧ IntZ w wr (lgP l k) v) (fun _ i _ => m - (intOf i).toNat)
      case atStart => exact ⟨0, Nat.zero_le _, rfl, ST.out⟩
      case round =>
        obtain ⟨k, hk, rfl, hir⟩ := hrel
        have IR := Lib.hid hir
        clear hir
        by_cases hlt : k < m
        · have hmk : k % m < m := Nat.mod_lt k hLp
          obtain ⟨ba, off, rfl, hbB, c0, c1, c2'⟩ := AI.out (k % m) wr hmk IR.out.below
          have c2 : wr.cell? ⟨ba, off + k % m * 3 + 2, none⟩ = some (.string (l.getD (k % m) noI).t) := c2'
          have LN := Lib.hid (show (lgP l k).length ≤ 1048576 by have := LE.out k; omega)
          have CK := Lib.hid (fun W => CT.out (k % m) W hmk)
          have P1 := Lib.hid (PM.out k)
          have P2 := Lib.hid (PY.out k)
          have P3 := Lib.hid (PN.out k)
          obtain ⟨x, hx⟩ : ∃ x, l.getD (k % m) noI = x := ⟨_, rfl⟩
          rw [hx] at c0 c1 c2 CK P1 P2 P3
          have hmod : (k : Int).tmod (m : Int) = ((k % m : Nat) : Int) := rfl
          obtain ⟨q, hq⟩ : ∃ q, k % m = q := ⟨_, rfl⟩
          rw [hq] at c0 c1 c2 hmk hmod
          have TC := truth_cases x
          obtain ⟨tr, htr⟩ : ∃ t, truthI x = t := ⟨_, rfl⟩
          rw [htr] at CK P1 P2 P3 TC
          clear hx c2' htr hq
          go_wp2_with fail
          refine (CK.out _).mono ?_
          rintro e w2 ⟨rfl, b2⟩
          have IR := Lib.hid (IR.out.keep b2)
          clear b2 CK
          rcases TC with rfl | rfl | rfl
          · have IN := Lib.hid (P3.out rfl ▸ IR.out)
            clear P1 P2 P3
            go_wp2
            go_roundw
            case rel => exact ⟨k + 1, by omega, by go_num, IN.out⟩
            case measure => simp [intOf]; omega
          · have NX := Lib.hid (P2.out rfl)
            clear P1 P2 P3
            go_wp2_with (at_builtin; go_loud (refine wpList_appInt rfl _ _ rfl ((k : Int) + 1) (lgP l k) _ _ rfl rfl (IR.out.keep (below1 _ _)) (blk_new _ _ rfl) LN.out ?_))
            intro v' w3 hir
            have IN := Lib.hid (NX.out ▸ hir)
            clear hir
            go_wp2
            go_roundw
            case rel => exact ⟨k + 1, by omega, by go_num, IN.out⟩
            case measure => simp [intOf]; omega
          · have NX := Lib.hid (P1.out rfl)
            clear P1 P2 P3
            go_wp2_with (at_builtin; go_loud (refine wpList_appInt rfl _ _ rfl 0 (lgP l k) _ _ rfl rfl (IR.out.keep (below1 _ _)) (blk_new _ _ rfl) LN.out ?_))
            intro v' w3 hir
            have IN := Lib.hid (NX.out ▸ hir)
            clear hir
            go_wp2
            go_roundw
            case rel => exact ⟨k + 1, by omega, by go_num, IN.out⟩
            case measure => simp [intOf]; omega
        · obtain rfl : k = m := by omega
          go_wp2
          go_ret2
          exact ⟨_, rfl, IR.out⟩
    · go_enter Try.func104, Try.ntmps104
      go_wp2
      go_loopw [8, 17] (fun v i wr => ∃ k : Nat, k ≤ m ∧ i = .int .i64 k ∧ IntZ w wr (lgP l k) v) (fun _ i _ => m - (intOf i).toNat)
      case atStart => exact ⟨0, Nat.zero_le _, rfl, ST.out⟩
      case round =>
        obtain ⟨k, hk, rfl, hir⟩ := hrel
        have IR := Lib.hid hir
        clear hir
        by_cases hlt : k < m
        · have hmk : k % L < L := Nat.mod_lt k hLp
          obtain ⟨ba, off, rfl, hbB, c0, c1, c2'⟩ := AI.out (k % L) wr hmk IR.out.below
          have c2 : wr.cell? ⟨ba, off + k % L * 3 + 2, none⟩ = some (.string (l.getD (k % L) noI).t) := c2'
          have LN := Lib.hid (show (lgP l k).length ≤ 1048576 by have := LE.out k; omega)
          have CK := Lib.hid (fun W => CT.out (k % L) W hmk)
          have P1 := Lib.hid (PM.out k)
          have P2 := Lib.hid (PY.out k)
          have P3 := Lib.hid (PN.out k)
          obtain ⟨x, hx⟩ : ∃ x, l.getD (k % L) noI = x := ⟨_, rfl⟩
          rw [hx] at c0 c1 c2 CK P1 P2 P3
          have hmod : (k : Int).tmod (L : Int) = ((k % L : Nat) : Int) := rfl
          obtain ⟨q, hq⟩ : ∃ q, k % L = q := ⟨_, rfl⟩
          rw [hq] at c0 c1 c2 hmk hmod
          have TC := truth_cases x
          obtain ⟨tr, htr⟩ : ∃ t, truthI x = t := ⟨_, rfl⟩
          rw [htr] at CK P1 P2 P3 TC
          clear hx c2' htr hq
          go_wp2_with fail
          refine (CK.out _).mono ?_
          rintro e w2 ⟨rfl, b2⟩
          have IR := Lib.hid (IR.out.keep b2)
          clear b2 CK
          rcases TC with rfl | rfl | rfl
          · have IN := Lib.hid (P3.out rfl ▸ IR.out)
            clear P1 P2 P3
            go_wp2
            go_roundw
            case rel => exact ⟨k + 1, by omega, by go_num, IN.out⟩
            case measure => simp [intOf]; omega
          · have NX := Lib.hid (P2.out rfl)
            clear P1 P2 P3
            go_wp2_with (at_builtin; go_loud (refine wpList_appInt rfl _ _ rfl ((k : Int) + 1) (lgP l k) _ _ rfl rfl (IR.out.keep (below1 _ _)) (blk_new _ _ rfl) LN.out ?_))
            intro v' w3 hir
            have IN := Lib.hid (NX.out ▸ hir)
            clear hir
            go_wp2
            go_roundw
            case rel => exact ⟨k + 1, by omega, by go_num, IN.out⟩
            case measure => simp [intOf]; omega
          · have NX := Lib.hid (P1.out rfl)
            clear P1 P2 P3
            go_wp2_with (at_builtin; go_loud (refine wpList_appInt rfl _ _ rfl 0 (lgP l k) _ _ rfl rfl (IR.out.keep (below1 _ _)) (blk_new _ _ rfl) LN.out ?_))
            intro v' w3 hir
            have IN := Lib.hid (NX.out ▸ hir)
            clear hir
            go_wp2
            go_roundw
            case rel => exact ⟨k + 1, by omega, by go_num, IN.out⟩
            case measure => simp [intOf]; omega
        · obtain rfl : k = m := by omega
          go_wp2
          go_ret2
          exact ⟨_, rfl, IR.out⟩
end Go.Proofs.Ytpekdmocgjjhnaa

/- The end of a region that appends one element to a field, and where the new slice lies. -/
namespace Go.Proofs.Ytpekdmocgjjhnaa
open Go.RowKit
set_option maxRecDepth 100000
set_option linter.unusedVariables false

section
variable {P : Program} {ops : Array Oper} {Q : Exit → Act → World → Prop} {S : World → Prop}
variable {r : List (Nat × Bool)} {a : Act} {e : List (Nat × Value)} {w : World} {i d : Nat} {g : Option (Nat × Bool)} {v : Value}
end
end Go.Proofs.Ytpekdmocgjjhnaa

/- withoutElements, selectElements. -/
namespace Go.Proofs.Ytpekdmocgjjhnaa
open Go.RowKit
set_option maxRecDepth 100000
set_option linter.unusedVariables false

theorem TxZ.form {w wr : World} {l : List ByteArray} {v : Value} (h : TxZ w wr l v) : ∃ s n c, v = .slice s n c := by
  obtain ⟨_, ⟨e, _⟩ | ⟨g, cap, cur, e, _⟩⟩ := h.row
  · exact ⟨_, _, _, e⟩
  · exact ⟨_, _, _, e⟩
theorem TxZ.slice {w wr : World} {l : List ByteArray} {s : Option Addr} {n c : Nat} (h : TxZ w wr l (.slice s n c)) : n = l.length := by
  obtain ⟨_, ⟨e, h0⟩ | ⟨g, cap, cur, e, _⟩⟩ := h.row
  · simp only [Value.slice.injEq] at e; omega
  · simp only [Value.slice.injEq] at e; exact e.2.1
theorem TxZ.texts {w wr : World} {l : List ByteArray} {s : Option Addr} {n c : Nat} (h : TxZ w wr l (.slice s n c)) : TextsAt w.heap.size wr.heap.size wr s l := by
  obtain ⟨a, c', F, e, ho, _, hr, _⟩ := txs_of_row h.row
  simp only [Value.slice.injEq] at e
  obtain ⟨rfl, _, _⟩ := e
  exact ho.at_ hr
/-- A copy of texts, with its row. -/
theorem wpList_copyTz {w0 w : World} {ops : Array Oper} {rest : List Oper} {o : Oper} {a : Act} {Q : Exit → Act → World → Prop} (hgd : o.guard = none) (s x : Operand)
    (ho : o.op = .call { callee := .builtin .append, args := #[s, x], argTypes := #[24, 24] }) (v0 : Value) (hs : a.eval s = v0)
    (hv0 : v0 = .slice none 0 0 ∨ ∃ g, w0.heap.size ≤ g ∧ v0 = .slice (some ⟨g, 0, none⟩) 0 0 ∧ w.heap[g]? = some (.cells #[] 9 (0, 0))) (hb : Below w0.heap.size w0 w)
    (ad : Option Addr) (c : Nat) (l : List ByteArray) (lo hi : Nat) (hx : a.eval x = .slice ad l.length c) (hT : TextsAt lo hi w ad l) (hn : l.length ≤ 1048576)
    (h : ∀ v' w', TxZ w0 w' l v' → wpList Try.prog ops Q rest (a.put o.dst v') w') : wpList Try.prog ops Q (o :: rest) a w := by
  have hown : w.ownsRow w0.heap.size 9 1 v0 0 [] := by
    rcases hv0 with rfl | ⟨g, hg, rfl, hb⟩
    · exact ⟨rfl, .inl ⟨rfl, rfl⟩⟩
    · exact ⟨rfl, .inr ⟨g, 0, #[], rfl, hg, hb, Nat.le_refl _, Nat.zero_le _, rfl, rfl⟩⟩
  by_cases hpos : 0 < l.length
  · obtain ⟨b, off, rfl⟩ := texts_some hT hpos
    obtain ⟨i0, hi0, hz0, hz1, hz2⟩ := info_parts infoStr
    refine wpList_append_own w hgd s x 24 ho w0.heap.size 9 i0 (.string ⟨#[]⟩) 1 16 Try.underlying24 hi0 hz0 hz1 hz2 rfl (by decide) v0 0 [] hs hown ⟨b, off, none⟩ l.length c (l.map Value.string) hx (by simp) (news_cells hT) (fun u hu => by obtain ⟨s, _, rfl⟩ := List.mem_map.1 hu; rfl) (by unfold maxLen; omega) (by omega) hb.size (fun v' w' h1 h2 _ => ?_)
    exact h v' w' ⟨by simpa using h1, hb.grown h2 hb.size (fun r hr => (hown.lt r hr).1)⟩
  · obtain rfl : l = [] := List.eq_nil_of_length_eq_zero (by omega)
    refine wpList_app0 hgd s x ho v0 hs (hv0.imp id (fun ⟨g, _, e, _⟩ => ⟨g, e⟩)) ad c hx (h _ _ ⟨hown, hb⟩)
/-- The Class of a vector with other elements. -/
def kpC (levels cls : List ByteArray) : List ByteArray := match levels with | [] => [] | _ :: _ => cls
section
variable {ops : Array Oper} {Q : Exit → Act → World → Prop} {S : World → Prop}
variable {r : List (Nat × Bool)} {a : Act} {e : List (Nat × Value)} {w : World} {i d : Nat} {g : Option (Nat × Bool)} {v : Value}
end
/-- The elements of a vector at indexes. -/
noncomputable def selV (kk : Int) (items : List It) (parts : List Vec) (names cls levels : List ByteArray) (idx : List Nat) : Vec := .mk kk (pkL noI items idx) (pkL noV parts idx) (clnN (pkL ⟨#[]⟩ names idx)) (kpC levels cls) levels 0 0
theorem ItR.slice {w wr : World} {l : List It} {s : Option Addr} {n c : Nat} (h : ItR w wr l (.slice s n c)) : n = l.length := by
  obtain ⟨_, ⟨e, h0⟩ | ⟨g, cap, cur, e, _⟩⟩ := h.row
  · simp only [Value.slice.injEq] at e; omega
  · simp only [Value.slice.injEq] at e; exact e.2.1
end Go.Proofs.Ytpekdmocgjjhnaa

/- What is owned at a depth is owned at every greater one. -/
namespace Go.Proofs.Ytpekdmocgjjhnaa
open Go.RowKit
set_option maxRecDepth 100000
set_option linter.unusedVariables false

/-! What is owned at a depth is owned at every greater one. -/
end Go.Proofs.Ytpekdmocgjjhnaa

/- DuplicatedIn on both sides. -/
namespace Go.Proofs.Ytpekdmocgjjhnaa
open Go.RowKit
set_option maxRecDepth 100000
set_option linter.unusedVariables false

noncomputable def dupZ (l : List It) (i : Nat) : Int := match bB (DupAt l i) with | true => 1 | false => 0
/-- Which elements are duplicates. -/
noncomputable def dupV (v : Vec) : Vec := match bB (atmS v = ⟨#[]⟩) with | true => mkN 1 (itF (fun i => logI (dupZ (itemsV v) i)) (itemsV v).length) [] | false => noV
end Go.Proofs.Ytpekdmocgjjhnaa

/- UniqueOf: data, the program. -/
namespace Go.Proofs.Ytpekdmocgjjhnaa
open Go.RowKit
set_option maxRecDepth 100000
set_option linter.unusedVariables false

/-- Which elements have no equal one ahead. -/
noncomputable def uqP (l : List It) (i : Nat) : Bool := !(bB (DupAt l i))
noncomputable def uqI (l : List It) : List Nat := whN (uqP l) l.length
noncomputable def uqV (v : Vec) : Vec := match bB (atmS v = ⟨#[]⟩), v with
  | true, .mk kk items _ _ cls levels _ _ => .mk kk (pkL noI items (uqI items)) [] [] (kpC levels cls) levels 0 0
  | false, _ => noV
end Go.Proofs.Ytpekdmocgjjhnaa

/- FieldOf as data. -/
namespace Go.Proofs.Ytpekdmocgjjhnaa
open Go.RowKit
set_option maxRecDepth 100000
set_option linter.unusedVariables false

def FldK (v : Vec) : Prop := kindV v = 0 ∨ kindV v = 4
/-- The part at a place, or NULL. -/
def partAt (parts : List Vec) (z : Int) : Vec := if z < 0 then noV else parts.getD z.toNat noV
noncomputable def fldV (s : ByteArray) (v : Vec) : Vec := bif bB (ValidV v ∧ FldK v) then (match v with | .mk _ _ parts names _ _ _ _ => partAt parts (fldZ s (fun i => names.getD i ⟨#[]⟩) names.length)) else noV
noncomputable def fldS (v : Vec) : ByteArray := bif bB (ValidV v) then (bif bB (FldK v) then ⟨#[]⟩ else nltB) else badB
theorem texts_strs {lo hi : Nat} {w : World} {a : Option Addr} {l : List ByteArray} (h : TextsAt lo hi w a l) : StrsAt hi w a l.length (fun i => l.getD i ⟨#[]⟩) := fun i hi' => by
  obtain ⟨b, off, e, _, h1, h2⟩ := h i (l.getD i ⟨#[]⟩) (by simp [List.getD_eq_getElem?_getD, hi'])
  exact ⟨b, off, e, h1, h2⟩
end Go.Proofs.Ytpekdmocgjjhnaa

/- Text subscripts of the program. -/
namespace Go.Proofs.Ytpekdmocgjjhnaa
open Go.RowKit
set_option maxRecDepth 100000
set_option linter.unusedVariables false

theorem rows_apart {w : World} {b1 b2 : Nat} {e1 e2 : TypeId} {s1 s2 n1 n2 : Nat} {v1 v2 : Value} {x1 x2 : List Value} (h1 : w.ownsRow b1 e1 s1 v1 n1 x1) (h2 : w.ownsRow b2 e2 s2 v2 n2 x2) (he : e1 ≠ e2) {g : Nat} (hg1 : v1.ownBlock = some g) (hg2 : v2.ownBlock = some g) : False := by
  obtain ⟨_, ⟨rfl, _⟩ | ⟨g', cap, cur, rfl, _, hb, _⟩⟩ := h1
  · cases hg1
  · obtain ⟨_, ⟨rfl, _⟩ | ⟨g2', cap2, cur2, rfl, _, hb2, _⟩⟩ := h2
    · cases hg2
    · obtain rfl : g' = g := Option.some.inj hg1
      obtain rfl : g2' = g' := Option.some.inj hg2
      rw [hb] at hb2
      simp only [Option.some.injEq, Obj.cells.injEq] at hb2
      exact he hb2.2.1
theorem item_own {w : World} {b1 s1 n1 g : Nat} {v1 : Value} {x1 : List Value} {C : Array Value} (h1 : w.ownsRow b1 9 s1 v1 n1 x1) (hb : w.heap[g]? = some (.cells C 63 (0, 0))) (hg : v1.ownBlock = some g) : False := by
  obtain ⟨_, ⟨rfl, _⟩ | ⟨g', cap, cur, rfl, _, hb2, _⟩⟩ := h1
  · cases hg
  · obtain rfl : g' = g := Option.some.inj hg
    rw [hb] at hb2
    simp only [Option.some.injEq, Obj.cells.injEq] at hb2
    exact absurd hb2.2.1 (by decide)
theorem wpList_appTx2 {w0 w : World} {ops : Array Oper} {rest : List Oper} {o : Oper} {a : Act} {Q : Exit → Act → World → Prop} (hgd : o.guard = none) (s x : Operand)
    (ho : o.op = .call { callee := .builtin .append, args := #[s, x], argTypes := #[24, 24] }) (z : ByteArray) (l : List ByteArray) (v0 : Value) (b : Nat) (hs : a.eval s = v0) (hx : a.eval x = .slice (some ⟨b, 0, none⟩) 1 1)
    (hr : TxZ w0 w l v0) (hb : w.heap[b]? = some (.cells #[.string z] 9 (0, 0))) (hn : l.length ≤ 1048576) {P : List Int} {v9 : Value} (h9 : IntZ w0 w P v9)
    (h : ∀ v' w', TxZ w0 w' (l ++ [z]) v' → IntZ w0 w' P v9 → (∀ (g : Nat) (C : Array Value), w.heap[g]? = some (Obj.cells C 63 (0, 0)) → w'.heap[g]? = some (Obj.cells C 63 (0, 0))) → wpList Try.prog ops Q rest (a.put o.dst v') w') : wpList Try.prog ops Q (o :: rest) a w := by
  obtain ⟨i0, hi0, hz0, hz1, hz2⟩ := info_parts infoStr
  refine wpList_append_own w hgd s x 24 ho w0.heap.size 9 i0 (.string ⟨#[]⟩) 1 16 Try.underlying24 hi0 hz0 hz1 hz2 rfl (by decide) v0 l.length (l.map Value.string) hs hr.row ⟨b, 0, none⟩ 1 1 [.string z] hx rfl (fun j u hj => ?_) (fun u hu => by obtain rfl := List.mem_singleton.1 hu; rfl) (by unfold maxLen; omega) (by omega) hr.below.size (fun v' w' h1 h2 _ => ?_)
  · obtain rfl : j = 0 := by have := (List.getElem?_eq_some_iff.1 hj).1; simpa using this
    obtain rfl : Value.string z = u := by simpa using hj
    rw [addr_add]
    exact cellOf hb rfl
  · have e1 : l.length + 1 = (l ++ [z]).length := by simp
    have e2 : l.map Value.string ++ [Value.string z] = (l ++ [z]).map Value.string := by rw [List.map_append]; rfl
    rw [e1, e2] at h1
    have hbl : Below w0.heap.size w0 w' := hr.below.grown h2 hr.below.size (fun r hr' => (hr.row.lt r hr').1)
    exact h v' w' ⟨h1, hbl⟩ ⟨ownsRow_kept h9.row (fun g hg => h2.block g (h9.row.lt g hg).2 (fun e => rows_apart h9.row hr.row (by decide) hg e.symm)), hbl⟩ (fun g C hg => (h2.block g (Array.getElem?_eq_some_iff.1 hg).1 (fun e => item_own hr.row hg e.symm)).trans hg)
theorem wpList_appInt2 {w0 w : World} {ops : Array Oper} {rest : List Oper} {o : Oper} {a : Act} {Q : Exit → Act → World → Prop} (hgd : o.guard = none) (s x : Operand)
    (ho : o.op = .call { callee := .builtin .append, args := #[s, x], argTypes := #[39, 39] }) (z : Int) (l : List Int) (v0 : Value) (b : Nat) (hs : a.eval s = v0) (hx : a.eval x = .slice (some ⟨b, 0, none⟩) 1 1)
    (hr : IntZ w0 w l v0) (hb : w.heap[b]? = some (.cells #[.int .i64 z] 3 (0, 0))) (hn : l.length ≤ 1048576) {K : List ByteArray} {v8 : Value} (h8 : TxZ w0 w K v8)
    (h : ∀ v' w', IntZ w0 w' (l ++ [z]) v' → TxZ w0 w' K v8 → wpList Try.prog ops Q rest (a.put o.dst v') w') : wpList Try.prog ops Q (o :: rest) a w := by
  obtain ⟨i0, hi0, hz0, hz1, hz2⟩ := info_parts infoInt
  refine wpList_append_own w hgd s x 39 ho w0.heap.size 3 i0 (.int .i64 0) 1 8 Try.underlying39 hi0 hz0 hz1 hz2 rfl (by decide) v0 l.length (intC l) hs hr.row ⟨b, 0, none⟩ 1 1 [.int .i64 z] hx rfl (fun j u hj => ?_) (fun u hu => by obtain rfl := List.mem_singleton.1 hu; rfl) (by unfold maxLen; omega) (by omega) hr.below.size (fun v' w' h1 h2 _ => ?_)
  · obtain rfl : j = 0 := by have := (List.getElem?_eq_some_iff.1 hj).1; simpa using this
    obtain rfl : Value.int .i64 z = u := by simpa using hj
    rw [addr_add]
    exact cellOf hb rfl
  · have e1 : l.length + 1 = (l ++ [z]).length := by simp
    have e2 : intC l ++ [Value.int .i64 z] = intC (l ++ [z]) := intC_app l [z]
    rw [e1, e2] at h1
    have hbl : Below w0.heap.size w0 w' := hr.below.grown h2 hr.below.size (fun r hr' => (hr.row.lt r hr').1)
    exact h v' w' ⟨h1, hbl⟩ ⟨ownsRow_kept h8.row (fun g hg => h2.block g (h8.row.lt g hg).2 (fun e => rows_apart h8.row hr.row (by decide) hg e.symm)), hbl⟩
/-- A row of empty texts with others laid over its beginning. -/
theorem TxZ.spliced {w0 w1 w2 : World} {g n : Nat} {names : List ByteArray} (h : w1.ownsRow w0.heap.size 9 1 (.slice (some ⟨g, 0, none⟩) n n) n (List.replicate n (.string ⟨#[]⟩))) (hg : w2.heap[g]? = some (.cells (splice (List.replicate n (Value.string ⟨#[]⟩)) 0 (names.map Value.string)).toArray 9 (0, 0))) (hb : Below w0.heap.size w0 w2) (hl : names.length ≤ n) :
    TxZ w0 w2 (padL names n) (.slice (some ⟨g, 0, none⟩) n n) := by
  obtain ⟨_, ⟨e, _⟩ | ⟨g', cap, cur, e, hB, _, _, hm, _, _⟩⟩ := h
  · cases e
  · simp only [Value.slice.injEq, Option.some.injEq, Addr.mk.injEq, and_true, true_and] at e
    obtain ⟨rfl, rfl⟩ := e
    have e1 := padL_len names n hl
    have e2 : (splice (List.replicate n (Value.string ⟨#[]⟩)) 0 (names.map Value.string)) = (padL names n).map Value.string := by
      unfold splice padL
      rw [List.take_zero, List.nil_append, Nat.zero_add, List.length_map, List.drop_replicate, List.map_append, List.map_replicate]
    rw [e2] at hg
    refine ⟨⟨by rw [List.length_map, Nat.mul_one], .inr ⟨g, n, _, by rw [e1], hB, hg, by rw [e1]; exact Nat.le_refl _, hm, by simp [e1], ?_⟩⟩, hb⟩
    rw [e1]
    simp only [Nat.mul_one]
    exact List.take_of_length_le (by rw [List.length_map, e1]; exact Nat.le_refl _)
theorem row_full {w : World} {base g n : Nat} {xs : List Value} (h : w.ownsRow base 9 1 (.slice (some ⟨g, 0, none⟩) n n) n xs) : w.heap[g]? = some (.cells xs.toArray 9 (0, 0)) := by
  obtain ⟨_, ⟨e, _⟩ | ⟨g', cap, cur, e, hB, hb, _, hm, hs, ht⟩⟩ := h
  · cases e
  · simp only [Value.slice.injEq, Option.some.injEq, Addr.mk.injEq, and_true, true_and] at e
    obtain ⟨rfl, rfl⟩ := e
    rw [hb, ← ht, List.take_of_length_le (by simp [hs])]
theorem made_texts (n : Nat) : (madeCells #[Value.string ⟨#[]⟩] n).toList = List.replicate n (.string ⟨#[]⟩) := by
  apply List.ext_getElem
  · simp [madeCells]
  · intro i h1 h2
    simp [madeCells, Nat.mod_one]
set_option maxHeartbeats 4000000 in
theorem implTxtSub (l : List It) (names : List ByteArray) (a an : Option Addr) (c cn lo hi lo2 hi2 n : Nat) (w : World) (hI : ItemsAt lo hi w a l) (hhi : hi ≤ w.heap.size) (hN : TextsAt lo2 hi2 w an names) (hh2 : hi2 ≤ w.heap.size) (hl : l.length ≤ 40) (hn : n ≤ 40) (hnm : names.length = 0 ∨ names.length = n) (hit : ∀ i, i < l.length → ItOk 3 (l.getD i noI)) :
    Calls Try.prog 122 #[.slice a l.length c, .int .i64 (n : Int), .slice an names.length cn] w (ResZ (teZ (padL names n) l) (teS l) w) := by
  have AI := Lib.hid (fun (k : Nat) (W : World) (hk : k < l.length) (hb : Below w.heap.size w W) => (hI.below hb hhi).at_ hk)
  have HT := Lib.hid hit
  have XP := Lib.hid (fun (W : World) (hb : Below w.heap.size w W) (h0 : 0 < (names.map Value.string).length) => (by
    rw [List.length_map] at h0
    obtain ⟨b, off, e⟩ := texts_some hN h0
    exact ⟨⟨b, off, none⟩, e, by subst e; exact news_cells (hN.below hb hh2)⟩ : ∃ ad, an = some ad ∧ ∀ j v, (names.map Value.string)[j]? = some v → W.cell? (ad.add j) = some v))
  have LM := Lib.hid (show (names.map Value.string).length = Nat.min names.length n by rw [List.length_map]; rcases hnm with e | e <;> rw [e] <;> simp)
  have LF := Lib.hid (show 0 + (names.map Value.string).length ≤ (List.replicate n (Value.string ⟨#[]⟩)).length by rw [List.length_map, List.length_replicate]; omega)
  have L1 := Lib.hid (show ∀ v ∈ names.map Value.string, v.oneCell' = true from fun v hv => by obtain ⟨_, _, rfl⟩ := List.mem_map.1 hv; rfl)
  have HL := Lib.hid (show names.length ≤ n by omega)
  have SP := Lib.hid (fun (w1 w2 : World) h hg hb => TxZ.spliced (w0 := w) (w1 := w1) (w2 := w2) (g := w.heap.size) (n := n) (names := names) h hg hb HL.out)
  have KL := Lib.hid (fun k => (by have := txK_len (padL names n) l k; rw [padL_len names n (by omega)] at this; exact this : (txK (padL names n) l k).length ≤ n + k))
  have PL := Lib.hid (txP_len (padL names n) l)
  have PM := Lib.hid (fun k h => txP_miss (K := padL names n) (l := l) (k := k) h)
  have PO := Lib.hid (fun k h0 h => txP_old (K := padL names n) (l := l) (k := k) h0 h)
  have PN := Lib.hid (fun k h0 h => txP_new (K := padL names n) (l := l) (k := k) h0 h)
  have KM := Lib.hid (fun k h => txK_miss (K := padL names n) (l := l) (k := k) h)
  have KO := Lib.hid (fun k h => txK_old (K := padL names n) (l := l) (k := k) h)
  have KN := Lib.hid (fun k h0 h => txK_new (K := padL names n) (l := l) (k := k) h0 h)
  have TO := Lib.hid (fun h => te_ok (K := padL names n) (l := l) h)
  have TB := Lib.hid (fun h => te_bad (K := padL names n) (l := l) h)
  have K0 := Lib.hid (show txK (padL names n) l 0 = padL names n from rfl)
  have P0 := Lib.hid (show txP (padL names n) l 0 = [] from rfl)
  have AT := Lib.hid (show AllT l ↔ ∀ i, i < l.length → OkT (l.getD i noI) from Iff.rfl)
  obtain ⟨K, hK⟩ : ∃ K : Nat → List ByteArray, txK (padL names n) l = K := ⟨_, rfl⟩
  obtain ⟨Z, hZ⟩ : ∃ Z : Nat → List Int, txP (padL names n) l = Z := ⟨_, rfl⟩
  rw [hK] at KL PO PN KM KO KN K0
  rw [hZ] at PL PM PO PN TO P0
  obtain ⟨R, hR⟩ : ∃ R, teZ (padL names n) l = R := ⟨_, rfl⟩
  obtain ⟨E, hE⟩ : ∃ E, teS l = E := ⟨_, rfl⟩
  rw [hR] at TO TB ⊢
  rw [hE] at TO TB ⊢
  obtain ⟨m, hm⟩ : ∃ m, l.length = m := ⟨_, rfl⟩
  rw [hm] at AI HT TO AT hl ⊢
  obtain ⟨CS, hCS⟩ : ∃ C, names.map Value.string = C := ⟨_, rfl⟩
  rw [hCS] at XP LM LF L1 SP
  obtain ⟨RS, hRS⟩ : ∃ C, List.replicate n (Value.string ⟨#[]⟩) = C := ⟨_, rfl⟩
  have MT := Lib.hid (made_texts n)
  rw [hRS] at LF SP MT
  obtain ⟨PD, hPD⟩ : ∃ P, padL names n = P := ⟨_, rfl⟩
  rw [hPD] at SP K0
  obtain ⟨nn, hnn⟩ : ∃ x, names.length = x := ⟨_, rfl⟩
  rw [hnn] at LM ⊢
  clear hI hhi hN hh2 hit hK hZ hR hE hm hCS hRS hPD hnn hnm HL
  obtain ⟨i0, hi0, hz0, hz1, hz2⟩ := info_parts infoStr
  have BY := Lib.hid (show i0.bytes * n ≤ 281474976710656 by rw [hz2]; omega)
  go_enter Try.func122, Try.ntmps122
  go_wp2_with (at_make; go_loud (refine wpList_make_full _ rfl _ _ 24 rfl w.heap.size 9 i0 (.string ⟨#[]⟩) 1 Try.underlying24 hi0 hz0 hz1 .i64 .i64 (n : Int) (n : Int) n rfl rfl rfl rfl BY.out (by unfold maxLen; omega) (Nat.le_refl _) ?_))
  intro w1 hr1 hg1
  rw [MT.out] at hr1
  have R1 := Lib.hid hr1
  have B1 := Lib.hid (show Below w.heap.size w w1 from (Below.refl _ _).grown hg1 (Nat.le_refl _) (fun k e => by cases e))
  have HG := Lib.hid (row_full hr1)
  clear hr1 hg1
  go_wp2_with (refine wpList_copy_splice rfl _ _ 24 24 rfl 9 Try.underlying24 (by kernel_rfl) (some ⟨w.heap.size, 0, none⟩) an n n nn cn rfl rfl w.heap.size 0 RS 9 HG.out CS LM.out (fun h0 => ⟨rfl, XP.out _ B1.out h0⟩) LF.out L1.out w.heap.size w B1.out (Nat.le_refl _) ?_)
  intro w2 hg2 hb2
  have T0 := Lib.hid (show TxZ w w2 (K 0) (.slice (some ⟨w.heap.size, 0, none⟩) n n) from K0.out ▸ SP.out w1 w2 R1.out hg2.out hb2)
  have I0 := Lib.hid (show IntZ w w2 (Z 0) (.slice none 0 0) from P0.out ▸ IntZ.nil w w2 hb2)
  clear hg2 hb2 R1 B1 HG
  go_wp2
  go_loopw [8, 9, 19] (fun v8 v9 i wr => ∃ k : Nat, k ≤ m ∧ i = .int .i64 k ∧ TxZ w wr (K k) v8 ∧ IntZ w wr (Z k) v9 ∧ ∀ j, j < k → OkT (l.getD j noI)) (fun _ _ i _ => m - (intOf i).toNat)
  case atStart => exact ⟨0, Nat.zero_le _, rfl, T0.out, I0.out, fun _ h => absurd h (Nat.not_lt_zero _)⟩
  case round =>
    obtain ⟨k, hk, rfl, ht, hz, hok⟩ := hrel
    have TZ := Lib.hid ht
    have IZ := Lib.hid hz
    have OK := Lib.hid hok
    clear ht hz hok
    by_cases hlt : k < m
    · obtain ⟨ba, off, rfl, hbB, c0, c1, c2'⟩ := AI.out k wr hlt IZ.out.below
      have c2 : wr.cell? ⟨ba, off + k * 3 + 2, none⟩ = some (.string (l.getD k noI).t) := c2'
      have IT := HT.out k hlt
      have LN := Lib.hid (show (Z k).length ≤ 1048576 by rw [PL.out k]; omega)
      have LK := Lib.hid (show (K k).length ≤ 1048576 by have := KL.out k; omega)
      have ATk := Lib.hid (show AllT l → OkT (l.getD k noI) from fun h => AT.out.1 h k hlt)
      have PM1 := Lib.hid (PM.out k)
      have PO1 := Lib.hid (PO.out k)
      have PN1 := Lib.hid (PN.out k)
      have KM1 := Lib.hid (KM.out k)
      have KO1 := Lib.hid (KO.out k)
      have KN1 := Lib.hid (KN.out k)
      have OKN := Lib.hid (show OkT (l.getD k noI) → ∀ j, j < k + 1 → OkT (l.getD j noI) from fun h j hj => by
        by_cases e : j = k
        · subst e; exact h
        · exact OK.out j (by omega))
      obtain ⟨x, hx⟩ : ∃ x, l.getD k noI = x := ⟨_, rfl⟩
      rw [hx] at c0 c1 c2 IT PM1 PO1 PN1 KM1 KO1 KN1 OKN ATk
      clear hx c2'
      have hcase : x = noI ∨ ∃ t : ByteArray, x = ⟨0, 1, t⟩ := by
        rcases IT with h | ⟨h, _⟩ | ⟨h, _⟩ | ⟨_, h1, h2, _⟩
        · exact .inl h
        · exact absurd h (by decide)
        · exact absurd h (by decide)
        · obtain ⟨xn, xd, xt⟩ := x
          have h1' : xn = 0 := h1
          have h2' : xd = 1 := h2
          subst h1' h2'
          exact .inr ⟨xt, rfl⟩
      rcases hcase with rfl | ⟨t, rfl⟩
      · have NX := Lib.hid (PM1.out rfl)
        have NK := Lib.hid (KM1.out rfl)
        have ON := Lib.hid (OKN.out (.inl rfl))
        clear PM1 PO1 PN1 KM1 KO1 KN1 OKN ATk IT
        have c0' : wr.cell? ⟨ba, off + k * 3, none⟩ = some (.int .i64 0) := c0
        have c1' : wr.cell? ⟨ba, off + k * 3 + 1, none⟩ = some (.int .i64 0) := c1
        have c2' : wr.cell? ⟨ba, off + k * 3 + 2, none⟩ = some (.string ⟨#[]⟩) := c2
        clear c0 c1 c2
        go_wp2_with (at_builtin; go_loud (refine wpList_appInt2 rfl _ _ rfl 0 (Z k) _ _ rfl rfl (IZ.out.keep (below2 _ _ _)) (by first | exact blk_new _ _ rfl | exact blk_new _ _ (by simp)) LN.out (TZ.out.keep (below2 _ _ _)) ?_))
        intro v' w3 hir htx
        have IN := Lib.hid (NX.out ▸ hir)
        have TN := Lib.hid (NK.out ▸ htx)
        clear hir htx
        go_wp2
        go_roundw
        case rel => exact ⟨k + 1, by omega, by go_num, TN.out, IN.out, ON.out⟩
        case measure => simp [intOf]; omega
      · obtain ⟨wa, hwa⟩ : ∃ W, wr.alloc (.cells #[.int .i64 0, .int .i64 1, .string t] 63) = W := ⟨_, rfl⟩
        have BA := Lib.hid (show Below wr.heap.size wr wa from hwa ▸ below1 wr _)
        have KB := Lib.hid (show wa.heap[wr.heap.size]? = some (.cells #[.int .i64 0, .int .i64 1, .string t] 63 (0, 0)) from hwa ▸ blk_new wr _ rfl)
        have TZ := Lib.hid (TZ.out.keep BA.out)
        have IZ := Lib.hid (IZ.out.keep BA.out)
        have EW := Lib.hid hwa
        have c0' : wr.cell? ⟨ba, off + k * 3, none⟩ = some (.int .i64 0) := c0
        have c1' : wr.cell? ⟨ba, off + k * 3 + 1, none⟩ = some (.int .i64 1) := c1
        have c2' : wr.cell? ⟨ba, off + k * 3 + 2, none⟩ = some (.string t) := c2
        have NN := Lib.hid (show ¬ (⟨0, 1, t⟩ : It) = noI from fun e => absurd (congrArg It.d e) (show ¬ (1 : Int) = 0 by decide))
        have PO2 := Lib.hid (fun h => PO1.out NN.out h)
        have PN2 := Lib.hid (fun h => PN1.out NN.out h)
        have KN2 := Lib.hid (fun h => KN1.out NN.out h)
        have hok' := Lib.hid (show OkT ⟨0, 1, t⟩ → t.size ≠ 0 from fun h => h.elim (fun e => absurd e NN.out) id)
        clear hwa c0 c1 c2 IT PM1 PO1 PN1 KM1 KN1
        by_cases ht0 : t.size = 0
        · have NA := Lib.hid (show ¬ AllT l from fun h => hok'.out (ATk.out h) ht0)
          obtain ⟨x1, x2⟩ := TB.out NA.out
          have X1 := Lib.hid x1
          have X2 := Lib.hid x2
          obtain rfl := empty_of_size ht0
          have BZ := Lib.hid IZ.out.below
          clear x1 x2 ht0 hok' ATk OKN PO2 PN2 KN2 KO1 NA
          go_upto_region 7 with (fail)
          rw [EW.out]
          have k0 := cellOf KB.out (i := 0) rfl
          have k1 := cellOf KB.out (i := 1) rfl
          have k2 := cellOf KB.out (i := 2) rfl
          go_wp2
          go_ret2
          rw [X2.out]
          exact resZ_nil X1.out BZ.out
        · have hne := notEmptyB ht0
          have ON := Lib.hid (OKN.out (.inr ht0))
          clear ht0 hok' ATk OKN
          obtain ⟨s8, n8, c8, rfl⟩ := TZ.out.form
          obtain rfl := TZ.out.slice
          have CC := Lib.hid (implContains t s8 (K k).length c8 (fun i => (K k).getD i ⟨#[]⟩) wa.heap.size wa (texts_strs TZ.out.texts) (by have := LK.out; omega))
          have CI := Lib.hid (show Calls Try.prog 50 #[.slice s8 (K k).length c8, .string t] wa (fun e w' => e = .returned (.int .i64 (findL (K k) t)) ∧ wa = w') from implIndexF t s8 (K k).length c8 (fun i => (K k).getD i ⟨#[]⟩) wa.heap.size wa (texts_strs TZ.out.texts) (by have := LK.out; omega))
          have FI := Lib.hid (show 0 ≤ findL (K k) t ↔ IsIn t (fun i => (K k).getD i ⟨#[]⟩) (K k).length from findL_in)
          have FL := Lib.hid (findL_le (K k) t)
          have FH := Lib.hid (findL_lt (K k) t)
          go_upto_region 7 with (fail)
          rw [EW.out]
          have k0 := cellOf KB.out (i := 0) rfl
          have k1 := cellOf KB.out (i := 1) rfl
          have k2 := cellOf KB.out (i := 2) rfl
          go_wp2_with fail
          refine CC.out.mono ?_
          rintro e w2 ⟨rfl, rfl⟩
          by_cases hin : 0 ≤ findL (K k) t
          · rw [bB_yes (FI.out.1 hin)]
            have NX := Lib.hid (PO2.out hin)
            have NK := Lib.hid (KO1.out hin)
            have hz1 := FH.out
            have hlk := LK.out
            clear PO2 PN2 KN2 KO1 FI FH CC
            obtain ⟨z, hz⟩ : ∃ z, findL (K k) t = z := ⟨_, rfl⟩
            rw [hz] at CI NX hin hz1 FL
            clear hz
            go_wp2_with fail
            refine CI.out.mono ?_
            rintro e w2 ⟨rfl, rfl⟩
            go_wp2_with (at_builtin; go_loud (refine wpList_appInt2 rfl _ _ rfl (z + 1) (Z k) _ _ rfl rfl (IZ.out.keep (below1 _ _)) (blk_new _ _ rfl) LN.out (TZ.out.keep (below1 _ _)) ?_))
            intro v' w3 hir htx
            have IN := Lib.hid (NX.out ▸ hir)
            have TN := Lib.hid (show TxZ w w3 (K (k + 1)) _ from by rw [NK.out]; exact htx)
            clear hir htx
            go_wp2
            go_roundw
            case rel => exact ⟨k + 1, by omega, by go_num, TN.out, IN.out, ON.out⟩
            case measure => simp [intOf]; omega
          · rw [bB_no (fun q => hin (FI.out.2 q))]
            have NX := Lib.hid (PN2.out (by omega))
            have NK := Lib.hid (KN2.out (by omega))
            have FN := Lib.hid (findL_new (K := K k) (s := t) (by omega))
            have hlk := LK.out
            clear PO2 PN2 KN2 KO1 FI FH FL CC CI hin
            go_wp2_with (at_builtin; go_loud (refine wpList_appTx2 rfl _ _ rfl t (K k) _ _ rfl rfl (TZ.out.keep (below1 _ _)) (blk_new _ _ rfl) LK.out (IZ.out.keep (below1 _ _)) ?_))
            intro v' w3 htx hir hkp
            have TN := Lib.hid htx
            have IZ3 := Lib.hid hir
            have KB3 := Lib.hid (hkp _ _ (blk_old KB.out))
            obtain ⟨s9, n9, c9, rfl⟩ := TN.out.form
            obtain rfl := TN.out.slice
            have CI := Lib.hid (show Calls Try.prog 50 #[.slice s9 (K k ++ [t]).length c9, .string t] w3 (fun e w' => e = .returned (.int .i64 ((K k).length : Int)) ∧ w3 = w') from by
              rw [← FN.out]
              exact implIndexF t s9 (K k ++ [t]).length c9 (fun i => (K k ++ [t]).getD i ⟨#[]⟩) w3.heap.size w3 (texts_strs TN.out.texts) (by simp only [List.length_append, List.length_singleton]; omega))
            clear htx hir hkp k0 k1 k2 FN
            have k2 := cellOf KB3.out (i := 2) rfl
            obtain ⟨KN', hKN⟩ : ∃ X, K k ++ [t] = X := ⟨_, rfl⟩
            rw [hKN] at TN NK CI ⊢
            clear hKN
            go_wp2_with fail
            refine CI.out.mono ?_
            rintro e w2 ⟨rfl, rfl⟩
            go_wp2_with (at_builtin; go_loud (refine wpList_appInt2 rfl _ _ rfl (((K k).length : Int) + 1) (Z k) _ _ rfl rfl (IZ3.out.keep (below1 _ _)) (blk_new _ _ rfl) LN.out (TN.out.keep (below1 _ _)) ?_))
            intro v' w4 hir htx
            have IN := Lib.hid (NX.out ▸ hir)
            have TN := Lib.hid (show TxZ w w4 (K (k + 1)) _ from by rw [NK.out]; exact htx)
            clear hir htx
            go_wp2
            go_roundw
            case rel => exact ⟨k + 1, by omega, by go_num, TN.out, IN.out, ON.out⟩
            case measure => simp [intOf]; omega
    · obtain rfl : k = m := by omega
      have AA := Lib.hid (AT.out.2 OK.out)
      obtain ⟨x1, x2⟩ := TO.out AA.out
      have X1 := Lib.hid x1
      have X2 := Lib.hid x2
      clear x1 x2 TO TB
      go_wp2
      go_ret2
      exact ⟨_, by rw [X2.out]; rfl, by rw [X1.out]; exact IZ.out⟩
end Go.Proofs.Ytpekdmocgjjhnaa
