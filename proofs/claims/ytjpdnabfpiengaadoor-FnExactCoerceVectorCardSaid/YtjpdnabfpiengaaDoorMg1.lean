/- The cursor of the laws' own draws. -/
import Derived.Test.YtjpdnabfpiengaaDoorRows
import Derived.Deep.OwnRows
import Derived.Test.YtjpdnabfpiengaaDoorReg
import Derived.Test.YtjpdnabfpiengaaDoorRegV
import Derived.Test.YtjpdnabfpiengaaDoorVecTo
import Derived.Test.YtjpdnabfpiengaaDoorVecMk5
import Derived.Test.YtjpdnabfpiengaaDoorVecEq
import Derived.Test.YtjpdnabfpiengaaDoorVecMk
import Derived.Test.YtjpdnabfpiengaaDoorVecCntI
import Derived.Test.YtjpdnabfpiengaaDoorVecCnt
import Derived.Test.YtjpdnabfpiengaaDoorNumMake
import Derived.Test.YtjpdnabfpiengaaDoorNumGcd
import Derived.Test.YtjpdnabfpiengaaDoorVecIt
import Derived.Test.YtjpdnabfpiengaaDoorNumMath
import Derived.WalkKit
import Derived.WalkSpells
import Derived.WalkLawsBesides
import Derived.IntWalk
import Derived.Lib.Hide
import Derived.Deep.QuietTactic
import Derived.BigQuiet
import Derived.Lib.SmallJoins
import Derived.Below
import Derived.Laws.AppendOwn
import Derived.Great.BuildSlice
import Derived.OwnWalk
import Derived.ChangeSlices
import Derived.ProofKit
import Derived.OpenShut
import Derived.Deep.DeepCutAuto
import Derived.Laws.ResultCell
import Derived.RegionTactic
import Derived.Deep.MidRow
import Derived.Maps.AppendAt
namespace Go.Proofs.YtjpdnabfpiengaaDoor
open Go.RowKit

theorem and255 (y : Int) : 0 ≤ bits BinOp.and IntKind.i64 y 255 ∧ bits BinOp.and IntKind.i64 y 255 < 256 := by
  have h : (BitVec.ofInt 64 y &&& BitVec.ofInt 64 255).toNat ≤ 255 := by
    rw [BitVec.toNat_and]; exact Nat.and_le_right
  have e : bits BinOp.and IntKind.i64 y 255 = IntKind.wrap .i64 ((BitVec.ofInt 64 y &&& BitVec.ofInt 64 255).toNat : Int) := rfl
  have e2 := IntWalk.wrap64_in ((BitVec.ofInt 64 y &&& BitVec.ofInt 64 255).toNat : Int) (by omega)
  rw [e, IntWalk.i64_left, e2]; omega

/-- The bytes that the draws read. -/
def CodeAt (B : Nat) (w : World) (a : Option Addr) (n : Nat) : Prop := ∀ i, i < n → ∃ b off, a = some ⟨b, off, none⟩ ∧ b < B ∧ ∃ x : Int, 0 ≤ x ∧ x < 256 ∧ w.cell? ⟨b, off + i, none⟩ = some (.int .u8 x)
theorem CodeAt.below {B : Nat} {w w1 : World} {a : Option Addr} {n : Nat} (h : CodeAt B w a n) (hb : Below B w w1) : CodeAt B w1 a n := by
  intro i hi
  obtain ⟨b, off, e, hlt, x, h0, h1, hc⟩ := h i hi
  exact ⟨b, off, e, hlt, x, h0, h1, by rw [hb.cell hlt]; exact hc⟩
theorem CodeAt.mono {B B' : Nat} {w : World} {a : Option Addr} {n : Nat} (h : CodeAt B w a n) (hB : B ≤ B') : CodeAt B' w a n := by
  intro i hi
  obtain ⟨b, off, e, hlt, r⟩ := h i hi
  exact ⟨b, off, e, by omega, r⟩
theorem rowCell {w : World} {b i : Nat} {C : Array Value} {t : TypeId} {v : Value} (h : w.heap[b]? = some (.cells C t (0, 0))) (hv : C[i]? = some v) : w.cell? ⟨b, i, none⟩ = some v := by
  unfold World.cell?; simp only [h]; exact hv
theorem rowFree {w : World} {b i : Nat} {C : Array Value} {t : TypeId} (h : w.heap[b]? = some (.cells C t (0, 0))) : w.frozen? ⟨b, i, none⟩ = false := by
  unfold World.frozen?; simp only [h]; simp
theorem intM {a b : Int} (h : a = b) : Value.int .i64 a = Value.int .i64 b := by rw [h]

/-- Only block p has changed, and memory may have grown. -/
theorem grown_refl (w : World) (row : Option Nat) : w.grownBy w row := ⟨rfl, rfl, rfl, Nat.le_refl _, fun _ _ _ => rfl⟩
theorem grown_trans {w a b : World} {row : Option Nat} (h : w.grownBy a row) (k : a.grownBy b row) : w.grownBy b row :=
  ⟨k.os.trans h.os, k.tape.trans h.tape, k.output.trans h.output, Nat.le_trans h.size k.size, fun i hi hne => (k.block i (Nat.lt_of_lt_of_le hi h.size) hne).trans (h.block i hi hne)⟩
theorem grown_draw {w a : World} {row : Option Nat} (h : w.grownBy a row) (m : Nat) : w.grownBy (a.drewN m) row := grown_trans h ⟨rfl, rfl, rfl, Nat.le_refl _, fun _ _ _ => rfl⟩
theorem grown_set {w a : World} {p : Nat} (h : w.grownBy a (some p)) (i : Nat) (v : Value) : w.grownBy (a.setCell ⟨p, i, none⟩ v) (some p) :=
  grown_trans h ⟨rfl, rfl, rfl, by simp, fun k _ hk => heap_setCell_other a ⟨p, i, none⟩ k v (fun e => hk (by simp [e]))⟩
theorem grown_alloc {w a : World} {row : Option Nat} (h : w.grownBy a row) (o : Obj) : w.grownBy (a.alloc o) row :=
  grown_trans h ⟨rfl, rfl, rfl, by simp, fun k hk _ => Below.heap_alloc a o k hk⟩
theorem grown_below {w a : World} {p B : Nat} (h : w.grownBy a (some p)) (hB : B ≤ p) (hp : p < w.heap.size) : Below B w a :=
  (Below.refl B w).grown h (by omega) (fun k e => by cases e; exact hB)

theorem tmod_in (x : Int) (n : Nat) (h0 : 0 ≤ x) (hn : 0 < n) : ∃ k : Nat, k < n ∧ x % (n : Int) = (k : Int) := by
  obtain ⟨m, rfl⟩ : ∃ m : Nat, x = m := ⟨x.toNat, by omega⟩
  exact ⟨m % n, Nat.mod_lt _ hn, rfl⟩

theorem grown_blk {w w1 : World} {p g : Nat} {o : Obj} (h : w.grownBy w1 (some p)) (hg : w.heap[g]? = some o) (hne : g ≠ p) : w1.heap[g]? = some o := by
  rw [h.block g (Array.getElem?_eq_some_iff.1 hg).1 (fun e => hne (by cases e; rfl))]; exact hg
theorem grown_of_below {w w1 : World} {row : Option Nat} (hb : Below w.heap.size w w1) : w.grownBy w1 row := ⟨hb.os, hb.tape, hb.output, hb.size, fun k hk _ => hb.block k hk⟩
theorem grown_far {w a : World} {p : Nat} (h : w.grownBy a (some p)) {g : Nat} (hg : w.heap.size ≤ g) (i : Nat) (v : Value) : w.grownBy (a.setCell ⟨g, i, none⟩ v) (some p) :=
  ⟨h.os, h.tape, h.output, by have := h.size; simp; omega, fun k hk hne => (Below.heap_setCell _ _ _ _ (show k ≠ g by omega)).trans (h.block k hk hne)⟩
theorem cell_ints (w : World) (ss : List Int) (t : TypeId) (i : Nat) (hi : i < ss.length) : (w.alloc (.cells (ss.map (Value.int .i64)).toArray t)).cell? ⟨w.heap.size, i, none⟩ = some (.int .i64 (ss.getD i 0)) := by
  have h : (w.alloc (.cells (ss.map (Value.int .i64)).toArray t)).heap[w.heap.size]? = some (.cells (ss.map (Value.int .i64)).toArray t) := (MapKept.heap_alloc w _).1
  unfold World.cell?
  simp only [h]
  simp [hi]
end Go.Proofs.YtjpdnabfpiengaaDoor

/- More operations for a region that draws its order: stores of items, subtraction, texts. -/
namespace Go.Proofs.YtjpdnabfpiengaaDoor
set_option maxRecDepth 100000
open Go.RowKit
set_option linter.unusedVariables false

section
variable {P : Program} {ops : Array Oper} {Q : Exit → Act → World → Prop} {S : World → Prop}
variable {r : List (Nat × Bool)} {a : Act} {e : List (Nat × Value)} {w : World} {i d : Nat} {g : Option (Nat × Bool)} {v : Value}
/-- A store: where nothing else may come up. -/
theorem run_store {t : TypeId} {x y : Operand} {p u : Value} {w' : World} (ho : opAt ops i = some (none, .store t x y, g)) (hw : wantE ops a e g = some true)
    (hx : lookO a e x = p) (hy : lookO a e y = u) (hs : (Instr.storeAt t p u).run P w = .ok () w') (hS : S w') (h : RunE P ops Q S r a e w') : RunE P ops Q S ((i, false) :: r) a e w := by
  refine ⟨fun hk => ?_⟩
  obtain ⟨o, hi, h1, h2, h3⟩ := opAt_spec ho
  show wpOp P ops Q i (fun a' w' => (lastK ops i = true ∨ S w') ∧ seqH P ops Q S r a' w') (putAll a e) w
  unfold wpOp
  simp only [hi, if_pos (wantE_spec hk (by rw [h3]; exact hw))]
  left
  unfold Oper.wp
  have hrun : (execOp (putAll a e).eval o).run P w = .ok .skip w' := by
    rw [eval_putAll a e hk]
    unfold execOp
    rw [h2]
    simp only [hx, hy]
    rw [Sem.run_bind, hs]; rfl
  rw [hrun]
  simp only [Oper.upon]
  rw [h1]
  exact ⟨.inr hS, h.out hk⟩
theorem run_sub {x y : Operand} {t t' : TypeId} {k : IntKind} {p q z : Int} (ho : opAt ops i = some (some d, .binOp .sub t x y t', g)) (hd : Nat.blt d a.tmps.size = true)
    (hw : wantE ops a e g = some true) (hx : lookO a e x = .int k p) (hy : lookO a e y = .int k q) (hz : k.wrap (p - q) = z)
    (h : RunE P ops Q S r a ((d, .int k z) :: e) w) : RunE P ops Q S ((i, true) :: r) a e w :=
  run_yield ho hd hw (fun o w' h1 _ => by
    unfold execOp; rw [h1]; simp only [hx, hy]; subst hz
    simp [eqGuard, binOp, Op.intArith, go_sem] <;> rfl) h
theorem neq_str {w' : World} {t : TypeId} {x y : ByteArray} {X Y : Operand} {b : Bool} (h : (x.toList == y.toList) = b) : (do eqGuard .neq t X Y (.string x) (.string y); binOp .neq t (.string x) (.string y) : Sem Value).run P w' = .ok (.bool !b) w' := by
  subst h
  simp [eqGuard, go_sem, binOp, Op.stringOp]
theorem str_self (x : ByteArray) : (x.toList == x.toList) = true := beq_self_eq_true _
theorem str_empty : ((⟨#[]⟩ : ByteArray).toList == (⟨#[]⟩ : ByteArray).toList) = true := str_self _
theorem str_not {x : ByteArray} (h : x ≠ ⟨#[]⟩) : (x.toList == (⟨#[]⟩ : ByteArray).toList) = false := by
  rw [beq_eq_false_iff_ne]
  intro e
  apply h
  rw [ByteArray.toList_eq, ByteArray.toList_eq] at e
  apply ByteArray.ext
  exact Array.toList_inj.1 e
end
theorem store_item {w : World} {b : Nat} {x y z u v q : Value} (h : w.heap[b]? = some (.cells #[x, y, z] 56 (0, 0))) (hu : u.oneCell' = true) (hv : v.oneCell' = true) (hq : q.oneCell' = true) :
    (Instr.storeAt 56 (.pointer (some ⟨b, 0, none⟩)) (.agg #[u, v, q])).run Tryd.prog w = .ok () (w.setRow b #[u, v, q]) := by
  have e := run_storeVar_row (P := Tryd.prog) w b _ 56 #[x, y, z] #[u, v, q] h infoItem rfl (by simp [hu, hv, hq])
  simp only [Instr.storeAt, Instr.sureAddr, Sem.run_bind, Sem.run_pure, Result.andThen_ok, e]
theorem row_set {w : World} {b : Nat} {o : Array Value} {t : TypeId} {c : Array Value} (h : w.heap[b]? = some (.cells o t (0, 0))) : (w.setRow b c).heap[b]? = some (.cells c t (0, 0)) := setRow_heap w b o c t (0, 0) h
theorem row_old {w : World} {b k : Nat} {c : Array Value} {o : Option Obj} (h : w.heap[k]? = o) (hne : k ≠ b) : (w.setRow b c).heap[k]? = o := (setRow_other w b k c hne).trans h
theorem below_row {B : Nat} {a w : World} (h : Below B a w) {b : Nat} (hb : B ≤ b) (c : Array Value) : Below B a (w.setRow b c) :=
  ⟨h.os, h.tape, h.output, by have := h.size; simp [World.setRow]; exact this, fun k hk => (setRow_other w b k c (by omega)).trans (h.block k hk)⟩
theorem grown_drew' {w a : World} {row : Option Nat} (h : w.grownBy a row) : w.grownBy a.drew row := grown_trans h ⟨rfl, rfl, rfl, Nat.le_refl _, fun _ _ _ => rfl⟩
end Go.Proofs.YtjpdnabfpiengaaDoor

/- Slices of items that a function of vectors builds by append, and the operations for it in a region that draws its order. -/
namespace Go.Proofs.YtjpdnabfpiengaaDoor
open Go.RowKit
set_option maxRecDepth 100000
set_option linter.unusedVariables false

section
variable {P : Program} {ops : Array Oper} {Q : Exit → Act → World → Prop} {S : World → Prop}
variable {r : List (Nat × Bool)} {a : Act} {e : List (Nat × Value)} {w : World} {i d : Nat} {g : Option (Nat × Bool)} {v : Value}
/-- An operation that changes the world, where nothing else may come up. -/
theorem run_eff {op : Op} {w' : World} (ho : opAt ops i = some (some d, op, g)) (hd : Nat.blt d a.tmps.size = true) (hw : wantE ops a e g = some true)
    (hx : ∀ o : Oper, o.op = op → (execOp (lookO a e) o).run P w = .ok (.value v) w') (hS : S w') (h : RunE P ops Q S r a ((d, v) :: e) w') : RunE P ops Q S ((i, false) :: r) a e w := by
  refine ⟨fun hk => ?_⟩
  obtain ⟨o, hi, h1, h2, h3⟩ := opAt_spec ho
  show wpOp P ops Q i (fun a' w' => (lastK ops i = true ∨ S w') ∧ seqH P ops Q S r a' w') (putAll a e) w
  unfold wpOp
  simp only [hi, if_pos (wantE_spec hk (by rw [h3]; exact hw))]
  left
  unfold Oper.wp
  rw [eval_putAll a e hk, hx o h2]
  simp only [Oper.upon]
  rw [h1]
  exact ⟨.inr hS, h.out (keysIn_cons hd hk)⟩
/-- A slice literal of one element. -/
theorem run_build {t el : TypeId} {x : Operand} {u z : Value} {cells : Array Value} {ie : TypeInfo} (ho : opAt ops i = some (some d, .buildSlice t 1 #[(0, x)], g)) (hd : Nat.blt d a.tmps.size = true) (hw : wantE ops a e g = some true)
    (hx : lookO a e x = u) (hu : P.underlying t = some (.slice el)) (hie : P.info? el = some ie) (hz : ie.zero = some z) (h24 : ¬ 1 * ie.size > 2 ^ 24) (h0 : ¬ 1 * ie.size = 0)
    (hf : Instr.fill (fun i => some (i * ie.size, ie.size)) ((Array.range (1 * ie.size)).map (z.cells[· % z.cells.size]!)) [(0, u)] = some cells)
    (hS : S (w.alloc (.cells cells el))) (h : RunE P ops Q S r a ((d, .slice (some ⟨w.heap.size, 0, none⟩) 1 1) :: e) (w.alloc (.cells cells el))) : RunE P ops Q S ((i, false) :: r) a e w := by
  refine run_eff ho hd hw (fun o h1 => ?_) hS h
  unfold execOp
  have hb := run_buildSlice (P := P) w t el 1 #[(0, u)] cells ie z hu hie hz h24 h0 hf
  simp only [h1, List.map_toArray, List.map_cons, List.map_nil, hx, Sem.run_bind, hb, Result.andThen_ok]
  rfl
/-- An append onto a row of the call's own. -/
theorem run_app {t el : TypeId} {x y : Operand} {v0 : Value} (ho : opAt ops i = some (some d, .call { callee := .builtin .append, args := [x, y].toArray, argTypes := [t, t].toArray }, g)) (hd : Nat.blt d a.tmps.size = true) (hw : wantE ops a e g = some true)
    (hx : lookO a e x = v0) (ad : Addr) (m c : Nat) (hy : lookO a e y = .slice (some ad) m c)
    (base : Nat) (ie : TypeInfo) (z : Value) (size bytes : Nat) (ht : P.underlying t = some (.slice el)) (hi : P.info? el = some ie) (hz : ie.zero = some z) (hsize : ie.size = size) (hby : ie.bytes = bytes) (hzs : z.cells.size = size) (hsz : 0 < size)
    (n : Nat) (xs : List Value) (hown : w.ownsRow base el size v0 n xs) (news : List Value) (hl : news.length = m * size) (hnews : ∀ j u, news[j]? = some u → w.cell? (ad.add j) = some u) (h1 : ∀ u ∈ news, u.oneCell' = true)
    (h63 : n + m ≤ maxLen) (hbytes : (n + m) * bytes ≤ 140737488355328) (hbase : base ≤ w.heap.size)
    (h : ∀ v' w', w'.ownsRow base el size v' (n + m) (xs ++ news) → w.grownBy w' v0.ownBlock → S w' ∧ RunE P ops Q S r a ((d, v') :: e) w') : RunE P ops Q S ((i, false) :: r) a e w := by
  refine ⟨fun hk => ?_⟩
  obtain ⟨o, hi', k1, k2, k3⟩ := opAt_spec ho
  show wpOp P ops Q i (fun a' w' => (lastK ops i = true ∨ S w') ∧ seqH P ops Q S r a' w') (putAll a e) w
  unfold wpOp
  simp only [hi', if_pos (wantE_spec hk (by rw [k3]; exact hw))]
  left
  unfold Oper.wp
  rw [eval_putAll a e hk]
  obtain ⟨v', w', hr, h2, h3, _⟩ := run_append_own (P := P) w base t o.type el ie z size bytes ht hi hz hsize hby hzs hsz v0 n xs hown ad m c news hl hnews h1 h63 hbytes hbase
  obtain ⟨hS, hR⟩ := h v' w' h2 h3
  unfold execOp
  simp only [k2, resolve, invoke, builtin, Sem.run_bind, Sem.run_pure, Result.andThen_ok, List.map_toArray, List.map_cons, List.map_nil, hx, hy, hr]
  simp only [Oper.upon]
  rw [k1]
  exact ⟨.inr hS, hR.out (keysIn_cons hd hk)⟩
/-- The last store: it waits for all the others, so nothing is asked of the world behind it. -/
theorem run_last {t : TypeId} {x y : Operand} {p u : Value} {w' : World} (hl : lastK ops i = true) (ho : opAt ops i = some (none, .store t x y, g)) (hw : wantE ops a e g = some true)
    (hx : lookO a e x = p) (hy : lookO a e y = u) (hs : (Instr.storeAt t p u).run P w = .ok () w') (h : RunE P ops Q S r a e w') : RunE P ops Q S ((i, false) :: r) a e w := by
  refine ⟨fun hk => ?_⟩
  obtain ⟨o, hi, h1, h2, h3⟩ := opAt_spec ho
  show wpOp P ops Q i (fun a' w' => (lastK ops i = true ∨ S w') ∧ seqH P ops Q S r a' w') (putAll a e) w
  unfold wpOp
  simp only [hi, if_pos (wantE_spec hk (by rw [h3]; exact hw))]
  left
  unfold Oper.wp
  have hrun : (execOp (putAll a e).eval o).run P w = .ok .skip w' := by
    rw [eval_putAll a e hk]
    unfold execOp
    rw [h2]
    simp only [hx, hy]
    rw [Sem.run_bind, hs]; rfl
  rw [hrun]
  simp only [Oper.upon]
  rw [h1]
  exact ⟨.inl hl, h.out hk⟩
end

/-- No operation that waits for all the others stands ahead of another one. -/
def seqTail (ops : Array Oper) : List (Nat × Bool) → Bool
  | [] => true
  | (_, true) :: r => seqTail ops r
  | (i, false) :: r => (!lastK ops i || r.isEmpty) && seqTail ops r
theorem seq_ops {P : Program} {ops : Array Oper} {Q : Exit → Act → World → Prop} {S : World → Prop} : ∀ (r : List (Nat × Bool)) (a : Act) (w : World), seqTail ops r = true → (r = [] ∨ S w) → seqH P ops Q S r a w → wpOps P ops Q (r.map (·.1)) a w
  | [], a, w, _, _, h => h
  | (i, true) :: r, a, w, ht, hS, h => by
    obtain ⟨o, v, d, ho, hd, hy, hq⟩ := h
    have hS := hS.resolve_left (by simp)
    refine hy.wpOp ho hS ?_
    rw [hd]
    exact seq_ops r _ _ ht (.inr hS) hq
  | (i, false) :: r, a, w, ht, hS, h => by
    simp only [seqTail, Bool.and_eq_true, Bool.or_eq_true, Bool.not_eq_true', List.isEmpty_iff] at ht
    refine wpOp_mono (fun a' w' hh => ?_) h
    refine seq_ops r a' w' ht.2 ?_ hh.2
    rcases hh.1 with hl | hS
    · rcases ht.1 with h1 | h1
      · rw [hl] at h1; cases h1
      · exact .inl h1
    · exact .inr hS
/-- A region that does not draw its order, walked in the order of its text. -/
theorem run_region_seq {P : Program} {id : Nat} {ops ops' : Array Oper} {Q : Exit → Act → World → Prop} {S : World → Prop} {a : Act} {w : World} (r : List (Nat × Bool)) (hops : ops' = ops) (hr : (r.map (·.1) == List.range ops.size) = true) (ht : seqTail ops r = true) (hS : S w)
    (h : RunE P ops Q S r a [] w) : (Code.region id ops' false).wp P Q a w := by
  subst hops
  refine wp_region ?_
  rw [← eq_of_beq hr]
  exact seq_ops r a w ht (.inr hS) (h.out (fun p hp => by cases hp))

/-! Items as cells. -/
def itCells : List It → List Value
  | [] => []
  | x :: l => .int .i64 x.n :: .int .i64 x.d :: .string x.t :: itCells l
theorem itCells_len : ∀ l : List It, (itCells l).length = l.length * 3
  | [] => rfl
  | x :: l => by simp only [itCells, List.length_cons, itCells_len l]; omega
theorem itCells_app : ∀ (l m : List It), itCells (l ++ m) = itCells l ++ itCells m
  | [], _ => rfl
  | x :: l, m => by simp only [List.cons_append, itCells, itCells_app l m]
theorem itCells_one : ∀ (l : List It), ∀ u ∈ itCells l, u.oneCell' = true
  | [], _, h => by cases h
  | x :: l, u, h => by
    simp only [itCells, List.mem_cons] at h
    rcases h with rfl | rfl | rfl | h
    · rfl
    · rfl
    · rfl
    · exact itCells_one l u h
theorem itCells_at : ∀ (l : List It) (i : Nat), i < l.length → (itCells l)[i * 3]? = some (.int .i64 (l.getD i noI).n) ∧ (itCells l)[i * 3 + 1]? = some (.int .i64 (l.getD i noI).d) ∧ (itCells l)[i * 3 + 2]? = some (.string (txtI l i))
  | [], _, h => by cases h
  | x :: l, 0, _ => ⟨rfl, rfl, rfl⟩
  | x :: l, i + 1, h => by
    have h := itCells_at l i (by simpa using h)
    have e1 : (x :: l).getD (i + 1) noI = l.getD i noI := by simp
    have e2 : txtI (x :: l) (i + 1) = txtI l i := by unfold txtI; rw [e1]
    rw [e1, e2, show (i + 1) * 3 = i * 3 + 3 by omega, show i * 3 + 3 + 1 = (i * 3 + 1) + 3 by omega, show i * 3 + 3 + 2 = (i * 3 + 2) + 3 by omega]
    exact h
/-- A row of the call's own that holds the items of l. -/
theorem own_of_its {w : World} {B : Nat} {v : Value} {l : List It} (h : w.ownsRow B 56 3 v l.length (itCells l)) :
    ∃ a c F, v = .slice a l.length c ∧ OwnIts w a l F ∧ F.Nodup ∧ (∀ b ∈ F, B ≤ b ∧ b < w.heap.size) ∧ l.length ≤ c := by
  obtain ⟨_, h⟩ := h
  rcases h with ⟨rfl, h0⟩ | ⟨g, cap, cur, rfl, hB, hg, hc, _, hs, ht⟩
  · have : l = [] := List.eq_nil_of_length_eq_zero h0
    subst this
    exact ⟨none, 0, [], rfl, .inl ⟨rfl, rfl⟩, List.nodup_nil, (fun _ h => by cases h), Nat.le_refl _⟩
  · refine ⟨some ⟨g, 0, none⟩, cap, [g], rfl, .inr ⟨g, cur, rfl, rfl, hg, by omega, fun i hi => ?_⟩, by simp, fun b hb => ?_, hc⟩
    · have key : ∀ j, j < l.length * 3 → cur[j]? = (itCells l)[j]? := fun j hj => by
        rw [← ht, List.getElem?_take_of_lt hj, Array.getElem?_toList]
      obtain ⟨h0, h1, h2⟩ := itCells_at l i hi
      exact ⟨(key _ (by omega)).trans h0, (key _ (by omega)).trans h1, (key _ (by omega)).trans h2⟩
    · obtain rfl := List.mem_singleton.1 hb
      exact ⟨hB, (Array.getElem?_eq_some_iff.1 hg).1⟩
theorem infoItm3 : (Tryd.prog.info? 56).map (fun i => (i.zero, i.size, i.bytes)) = some (some (.agg #[.int .i64 0, .int .i64 0, .string ⟨#[]⟩]), 3, 32) := by kernel_rfl
theorem fill_item (x : It) : Instr.fill (fun i => some (i * 3, 3)) ((Array.range (1 * 3)).map ((Value.agg #[.int .i64 0, .int .i64 0, .string ⟨#[]⟩]).cells[· % (Value.agg #[.int .i64 0, .int .i64 0, .string ⟨#[]⟩]).cells.size]!)) [(0, .agg #[.int .i64 x.n, .int .i64 x.d, .string x.t])] = some #[.int .i64 x.n, .int .i64 x.d, .string x.t] := by
  have h := Great.fill_whole (s := 3) (by decide) [.agg #[.int .i64 x.n, .int .i64 x.d, .string x.t]] ((Array.range (1 * 3)).map ((Value.agg #[.int .i64 0, .int .i64 0, .string ⟨#[]⟩]).cells[· % (Value.agg #[.int .i64 0, .int .i64 0, .string ⟨#[]⟩]).cells.size]!)) (fun v hv => by obtain rfl := List.mem_singleton.1 hv; rfl) (by simp)
  exact h
section
variable {ops : Array Oper} {Q : Exit → Act → World → Prop} {S : World → Prop}
variable {r : List (Nat × Bool)} {a : Act} {e : List (Nat × Value)} {w : World} {i d : Nat} {g : Option (Nat × Bool)} {v : Value}
theorem run_build_item {x : Operand} (z : It) (ho : opAt ops i = some (some d, .buildSlice 28 1 #[(0, x)], g)) (hd : Nat.blt d a.tmps.size = true) (hw : wantE ops a e g = some true)
    (hx : lookO a e x = .agg #[.int .i64 z.n, .int .i64 z.d, .string z.t])
    (h : ∀ W, W = w.alloc (.cells #[.int .i64 z.n, .int .i64 z.d, .string z.t] 56) → S W ∧ RunE Tryd.prog ops Q S r a ((d, .slice (some ⟨w.heap.size, 0, none⟩) 1 1) :: e) W) : RunE Tryd.prog ops Q S ((i, false) :: r) a e w := by
  obtain ⟨ie, hie, hz, hsz, _⟩ := info_parts infoItm3
  obtain ⟨hS, hR⟩ := h _ rfl
  exact run_build ho hd hw hx Tryd.underlying28 hie hz (by rw [hsz]; decide) (by rw [hsz]; decide) (by rw [hsz]; exact fill_item z) hS hR
theorem run_app_item {x y : Operand} {v0 : Value} {b : Nat} (z : It) {l : List It} {base : Nat} (ho : opAt ops i = some (some d, .call { callee := .builtin .append, args := [x, y].toArray, argTypes := [28, 28].toArray }, g)) (hd : Nat.blt d a.tmps.size = true) (hw : wantE ops a e g = some true)
    (hx : lookO a e x = v0) (hy : lookO a e y = .slice (some ⟨b, 0, none⟩) 1 1) (hown : w.ownsRow base 56 3 v0 l.length (itCells l)) (hb : w.heap[b]? = some (.cells #[.int .i64 z.n, .int .i64 z.d, .string z.t] 56 (0, 0)))
    (hn : l.length ≤ 1048576) (hbase : base ≤ w.heap.size)
    (h : ∀ v' w', w'.ownsRow base 56 3 v' (l ++ [z]).length (itCells (l ++ [z])) → w.grownBy w' v0.ownBlock → S w' ∧ RunE Tryd.prog ops Q S r a ((d, v') :: e) w') : RunE Tryd.prog ops Q S ((i, false) :: r) a e w := by
  obtain ⟨ie, hie, hz, hsz, hby⟩ := info_parts infoItm3
  refine run_app ho hd hw hx ⟨b, 0, none⟩ 1 1 hy base ie _ 3 32 Tryd.underlying28 hie hz hsz hby rfl (by decide) l.length (itCells l) hown (itCells [z]) rfl (fun j u hj => ?_) (itCells_one _) (by unfold maxLen; omega) (by omega) hbase (fun v' w' h1 h2 => ?_)
  · have hlt : j < 3 := by have := (List.getElem?_eq_some_iff.1 hj).1; simpa [itCells] using this
    have ea : (⟨b, 0, none⟩ : Addr).add j = ⟨b, j, none⟩ := by
      unfold Addr.add; split
      · rename_i h; subst h; rfl
      · simp
    rw [ea]
    refine cellOf hb ?_
    rw [← hj]
    rcases (show j = 0 ∨ j = 1 ∨ j = 2 by omega) with rfl | rfl | rfl <;> rfl
  · refine h v' w' ?_ h2
    rw [itCells_app]
    simpa using h1
/-- The store of a slice into a field of a vector. -/
theorem run_last_field {x y : Operand} {b j : Nat} {u c : Value} {C : Array Value} {t tt : TypeId} (hl : lastK ops i = true) (ho : opAt ops i = some (none, .store t x y, g)) (hw : wantE ops a e g = some true)
    (hst : ∀ {w : World} {p : Addr}, (∃ x, w.cell? p = some x) → w.frozen? p = false → (Instr.storeAt t (.pointer (some p)) u).run Tryd.prog w = .ok () (w.setCell p u))
    (hx : lookO a e x = .pointer (some ⟨b, j, none⟩)) (hy : lookO a e y = u) (hb : w.heap[b]? = some (.cells C tt (0, 0))) (hj : C[j]? = some c)
    (h : ∀ W, W = w.setCell ⟨b, j, none⟩ u → RunE Tryd.prog ops Q S r a e W) : RunE Tryd.prog ops Q S ((i, false) :: r) a e w :=
  run_last hl ho hw hx hy (hst ⟨_, cellOf hb hj⟩ (freeOf hb)) (h _ rfl)
end
theorem store_its {w : World} {p : Addr} {s : Option Addr} {n c : Nat} (h : ∃ x, w.cell? p = some x) (hf : w.frozen? p = false) : (Instr.storeAt 28 (.pointer (some p)) (.slice s n c)).run Tryd.prog w = .ok () (w.setCell p (.slice s n c)) := by
  obtain ⟨x, hx⟩ := h
  simp [Instr.storeAt, go_sem, hx, hf]
theorem look_new {a : Act} {e : List (Nat × Value)} (d : Nat) (v : Value) : lookO a ((d, v) :: e) (.tmp d) = v := by
  show lookAt a ((d, v) :: e) d = v
  unfold lookAt
  rw [Nat.beq_refl]
theorem look_next {a : Act} {e : List (Nat × Value)} {d d' : Nat} {v v' : Value} (h : Nat.beq d d' = false) : lookO a ((d, v) :: (d', v') :: e) (.tmp d') = v' := by
  show lookAt a ((d, v) :: (d', v') :: e) d' = v'
  unfold lookAt
  rw [h]
  show lookAt a ((d', v') :: e) d' = v'
  unfold lookAt
  rw [Nat.beq_refl]
theorem ownsRow_below {w w' : World} {base : Nat} {el : TypeId} {size n : Nat} {v : Value} {xs : List Value} (h : w.ownsRow base el size v n xs) (hb : Below w.heap.size w w') : w'.ownsRow base el size v n xs := by
  obtain ⟨hl, h⟩ := h
  refine ⟨hl, ?_⟩
  rcases h with h | ⟨g, cap, cur, e, hB, hg, r⟩
  · exact .inl h
  · exact .inr ⟨g, cap, cur, e, hB, blk_below hb hg, r⟩
theorem ownsRow_set {w : World} {base b j : Nat} {el : TypeId} {size n : Nat} {v u : Value} {xs : List Value} (h : w.ownsRow base el size v n xs) (hb : b < base) : (w.setCell ⟨b, j, none⟩ u).ownsRow base el size v n xs := by
  obtain ⟨hl, h⟩ := h
  refine ⟨hl, ?_⟩
  rcases h with h | ⟨g, cap, cur, e, hB, hg, r⟩
  · exact .inl h
  · exact .inr ⟨g, cap, cur, e, hB, by rw [Below.heap_setCell _ _ _ _ (show g ≠ b by omega)]; exact hg, r⟩
theorem heldC_alloc {w v : World} {L : List (Nat × TypeId × Array Value)} (h : HeldC w v L) (o : Obj) : HeldC w (v.alloc o) L := ⟨h.1.alloc h.1.size _, fun q hq => blk_old (h.2 q hq)⟩
theorem heldC_grown {w v v1 : World} {L : List (Nat × TypeId × Array Value)} {row : Option Nat} (h : HeldC w v L) (hg : v.grownBy v1 row) (hr : ∀ k, row = some k → w.heap.size ≤ k ∧ ∀ q ∈ L, q.1 ≠ k) : HeldC w v1 L :=
  ⟨h.1.grown hg h.1.size (fun r hr' => (hr r hr').1), fun q hq => (hg.block q.1 (Array.getElem?_eq_some_iff.1 (h.2 q hq)).1 (fun e => (hr q.1 e.symm).2 q hq rfl)).trans (h.2 q hq)⟩
/-- The end of 'v.Items = append(v.Items, x)': the slice of one, the append, the store. -/
theorem tail_item {ops : Array Oper} {Q : Exit → Act → World → Prop} {a : Act} {e : List (Nat × Value)} {w0 w1 : World} {L : List (Nat × TypeId × Array Value)} {i1 i2 i3 i4 d1 d2 d4 b j base : Nat} {x s p : Operand} {v0 c : Value} {C : Array Value} {tt : TypeId} (z : It) {l : List It}
    (ho1 : opAt ops i1 = some (some d1, .buildSlice 28 1 #[(0, x)], none)) (hd1 : Nat.blt d1 a.tmps.size = true) (hx : lookO a e x = .agg #[.int .i64 z.n, .int .i64 z.d, .string z.t])
    (ho2 : opAt ops i2 = some (some d2, .call { callee := .builtin .append, args := [s, .tmp d1].toArray, argTypes := [28, 28].toArray }, none)) (hd2 : Nat.blt d2 a.tmps.size = true) (hs : ∀ u, lookO a ((d1, u) :: e) s = v0)
    (ho4 : opAt ops i4 = some (some d4, .fieldAddr 31 p j, none)) (hd4 : Nat.blt d4 a.tmps.size = true) (hf : Nat.blt j 8 = true) (hp : ∀ u u', lookO a ((d2, u') :: (d1, u) :: e) p = .pointer (some ⟨b, 0, none⟩))
    (ho3 : opAt ops i3 = some (none, .store 28 (.tmp d4) (.tmp d2), none)) (hl : lastK ops i3 = true) (hne : Nat.beq d4 d2 = false)
    (H : HeldC w0 w1 L) (hown : w1.ownsRow base 56 3 v0 l.length (itCells l)) (hn : l.length ≤ 1048576) (hbase : base ≤ w1.heap.size) (hw0 : w0.heap.size ≤ base) (m : (b, tt, C) ∈ L) (hj : C[j]? = some c) (hb : b < base) (hb0 : w0.heap.size ≤ b)
    (hL : ∀ q ∈ L, ∀ k, v0.ownBlock = some k → q.1 ≠ k)
    (h : ∀ v' W, (∃ sa n c, v' = .slice sa n c) → W.heap[b]? = some (.cells (C.setIfInBounds j v') tt (0, 0)) → W.ownsRow base 56 3 v' (l ++ [z]).length (itCells (l ++ [z])) → Below w0.heap.size w0 W → w1.heap.size ≤ W.heap.size →
      (∀ q ∈ L, q.1 ≠ b → W.heap[q.1]? = some (.cells q.2.2 q.2.1 (0, 0))) → Q .normal (putAll a ((d4, .pointer (some ⟨b, j, none⟩)) :: (d2, v') :: (d1, .slice (some ⟨w1.heap.size, 0, none⟩) 1 1) :: e)) W) :
    RunE Tryd.prog ops Q (fun w' => HeldC w0 w' L) [(i1, false), (i2, false), (i4, true), (i3, false)] a e w1 := by
  refine run_build_item z ho1 hd1 rfl hx (fun W1 hW1 => ?_)
  have H1 : HeldC w0 W1 L := hW1 ▸ heldC_alloc H _
  have hK : W1.heap[w1.heap.size]? = some (.cells #[.int .i64 z.n, .int .i64 z.d, .string z.t] 56 (0, 0)) := hW1 ▸ blk_new w1 _ rfl
  have hO : W1.ownsRow base 56 3 v0 l.length (itCells l) := hW1 ▸ ownsRow_below hown (below1 w1 _)
  have hS1 : w1.heap.size ≤ W1.heap.size := hW1 ▸ (below1 w1 _).size
  refine ⟨H1, run_app_item (b := w1.heap.size) z ho2 hd2 rfl (hs _) (look_new _ _) hO hK hn (by omega) (fun v' W2 hO2 hg2 => ?_)⟩
  have H2 : HeldC w0 W2 L := heldC_grown H1 hg2 (fun k hk => ⟨by have := (hO.lt k hk).1; omega, fun q hq => hL q hq k hk⟩)
  have hv : ∃ sa n c, v' = .slice sa n c := by
    obtain ⟨_, h | ⟨g, cap, cur, e, _⟩⟩ := hO2
    · exact ⟨_, _, _, h.1⟩
    · exact ⟨_, _, _, e⟩
  obtain ⟨sa, n, c', rfl⟩ := hv
  refine ⟨H2, runC_partV hf ho4 hd4 rfl (hp _ _) (run_last_field hl ho3 rfl store_its (look_new _ _) (look_next hne) (heldC_at H2 m) hj (fun W3 hW3 => run_done (h _ W3 ⟨_, _, _, rfl⟩ ?_ ?_ ?_ ?_ ?_)))⟩
  · subst hW3; exact Joins.block_setCell (heldC_at H2 m) _
  · subst hW3; exact ownsRow_set hO2 hb
  · subst hW3; exact H2.1.setCell (p := ⟨b, j, none⟩) hb0 _
  · subst hW3; have := hg2.size; simp; omega
  · intro q hq hne; subst hW3; rw [Below.heap_setCell _ _ _ _ hne]; exact H2.2 q hq
section
variable {ops : Array Oper} {Q : Exit → Act → World → Prop} {S : World → Prop} {w0 : World} {L : List (Nat × TypeId × Array Value)}
variable {r : List (Nat × Bool)} {a : Act} {e : List (Nat × Value)} {w : World} {i d : Nat} {g : Option (Nat × Bool)} {v : Value}
theorem addr_add (b off j : Nat) : (⟨b, off, none⟩ : Addr).add j = ⟨b, off + j, none⟩ := by
  unfold Addr.add; split
  · rename_i h; subst h; rfl
  · rfl
/-- The address of an element of one cell. -/
theorem run_idx1 {t el : TypeId} {x y : Operand} {b off n c k : Nat} {z : Value} {by_ : Nat} (ho : opAt ops i = some (some d, .indexAddr t x y, g)) (hd : Nat.blt d a.tmps.size = true) (hw : wantE ops a e g = some true)
    (hx : lookO a e x = .slice (some ⟨b, off, none⟩) n c) (hy : lookO a e y = .int .i64 (k : Int)) (hk : k < n) (ht : Tryd.prog.underlying t = some (.slice el)) (he : Tryd.prog.elem t = el) (hz : (Tryd.prog.info? el).map (fun i => (i.zero, i.size, i.bytes)) = some (some z, 1, by_))
    (h : RunE Tryd.prog ops Q S r a ((d, .pointer (some ⟨b, off + k, none⟩)) :: e) w) : RunE Tryd.prog ops Q S ((i, true) :: r) a e w :=
  run_yield ho hd hw (fun o w' h1 _ => by
    unfold execOp; rw [h1]; simp only [hx, hy]
    refine run_v ?_
    obtain ⟨ie, hie, _, hsz, _⟩ := info_parts hz
    subst he
    rw [run_indexAt_slice (h := ht), if_pos ⟨Int.natCast_nonneg k, by omega⟩]
    simp [sizeOf, typeInfo, hie, hsz, addr_add]) h
/-- A load of a cell that lay there at the outset. -/
theorem runC_old {x : Operand} {t : TypeId} {b j : Nat} (hl : ∀ {w' : World} {p : Addr} {v : Value}, w'.cell? p = some v → (Instr.loadAt t (.pointer (some p))).run Tryd.prog w' = .ok v w')
    (ho : opAt ops i = some (some d, .load t x, g)) (hd : Nat.blt d a.tmps.size = true) (hw : wantE ops a e g = some true)
    (hx : lookO a e x = .pointer (some ⟨b, j, none⟩)) (hb : b < w0.heap.size) (hc : w0.cell? ⟨b, j, none⟩ = some v) (h : RunE Tryd.prog ops Q (fun w' => HeldC w0 w' L) r a ((d, v) :: e) w) : RunE Tryd.prog ops Q (fun w' => HeldC w0 w' L) ((i, true) :: r) a e w :=
  run_load ho hd hw hx (fun w' hS => hl ((hS.1.cell (p := ⟨b, j, none⟩) hb).trans hc)) h
end
end Go.Proofs.YtjpdnabfpiengaaDoor

/- Vectors of the laws' own type in a region that draws its order; a new block filled with a vector. -/
namespace Go.Proofs.YtjpdnabfpiengaaDoor
set_option maxRecDepth 100000
open Go.RowKit
set_option linter.unusedVariables false

theorem infoLVec : (Tryd.prog.info? 26).map (·.size) = some 8 := by kernel_rfl
theorem load_lvec {w' : World} {b : Nat} {c0 c1 c2 c3 c4 c5 c6 c7 : Value} {t : TypeId} (h : w'.heap[b]? = some (.cells #[c0, c1, c2, c3, c4, c5, c6, c7] t (0, 0))) :
    (Instr.loadAt 26 (.pointer (some ⟨b, 0, none⟩))).run Tryd.prog w' = .ok (.agg #[c0, c1, c2, c3, c4, c5, c6, c7]) w' :=
  run_loadVar_row w' b t 26 #[c0, c1, c2, c3, c4, c5, c6, c7] (0, 0) _ h Tryd.underlying26 rfl infoLVec
section
variable {ops : Array Oper} {Q : Exit → Act → World → Prop} {w0 : World} {L : List (Nat × TypeId × Array Value)}
variable {r : List (Nat × Bool)} {a : Act} {e : List (Nat × Value)} {w : World} {i d : Nat} {g : Option (Nat × Bool)} {v : Value}
theorem runC_lvec {x : Operand} {tt : TypeId} {b : Nat} {c0 c1 c2 c3 c4 c5 c6 c7 : Value} (ho : opAt ops i = some (some d, .load 26 x, g)) (hd : Nat.blt d a.tmps.size = true) (hw : wantE ops a e g = some true)
    (hx : lookO a e x = .pointer (some ⟨b, 0, none⟩)) (m : (b, tt, #[c0, c1, c2, c3, c4, c5, c6, c7]) ∈ L) (h : RunE Tryd.prog ops Q (fun w' => HeldC w0 w' L) r a ((d, .agg #[c0, c1, c2, c3, c4, c5, c6, c7]) :: e) w) : RunE Tryd.prog ops Q (fun w' => HeldC w0 w' L) ((i, true) :: r) a e w :=
  run_load ho hd hw hx (fun w' hS => load_lvec (heldC_at hS m)) h
end
/-- A new block that was filled with the eight fields of a vector. -/
theorem put_new (w : World) (z0 z1 z2 z3 z4 z5 z6 z7 c0 c1 c2 c3 c4 c5 c6 c7 : Value) (t : TypeId) :
    ∃ W, ((((((((w.alloc (.cells #[z0, z1, z2, z3, z4, z5, z6, z7] t)).setCell ⟨w.heap.size, 0, none⟩ c0).setCell ⟨w.heap.size, 1, none⟩ c1).setCell ⟨w.heap.size, 2, none⟩ c2).setCell ⟨w.heap.size, 3, none⟩ c3).setCell ⟨w.heap.size, 4, none⟩ c4).setCell ⟨w.heap.size, 5, none⟩ c5).setCell ⟨w.heap.size, 6, none⟩ c6).setCell ⟨w.heap.size, 7, none⟩ c7 = W ∧
      W.heap[w.heap.size]? = some (.cells #[c0, c1, c2, c3, c4, c5, c6, c7] t (0, 0)) ∧ Below w.heap.size w W := by
  refine ⟨_, rfl, ?_, ?_⟩
  · have h : (w.alloc (.cells #[z0, z1, z2, z3, z4, z5, z6, z7] t)).heap[w.heap.size]? = some (.cells #[z0, z1, z2, z3, z4, z5, z6, z7] t (0, 0)) := blk_new w _ rfl
    exact put8_lit h
  · have hB : w.heap.size ≤ w.heap.size := Nat.le_refl _
    exact (Below.setCell (Below.setCell (Below.setCell (Below.setCell (Below.setCell (Below.setCell (Below.setCell (Below.setCell (below1 w _) (p := ⟨w.heap.size, 0, none⟩) hB c0) (p := ⟨w.heap.size, 1, none⟩) hB c1) (p := ⟨w.heap.size, 2, none⟩) hB c2) (p := ⟨w.heap.size, 3, none⟩) hB c3) (p := ⟨w.heap.size, 4, none⟩) hB c4) (p := ⟨w.heap.size, 5, none⟩) hB c5) (p := ⟨w.heap.size, 6, none⟩) hB c6) (p := ⟨w.heap.size, 7, none⟩) hB c7)
end Go.Proofs.YtjpdnabfpiengaaDoor

/- Results that are vectors, in blocks of a range of their own; what a mark leaves alone. -/
namespace Go.Proofs.YtjpdnabfpiengaaDoor
open Go.RowKit
set_option maxRecDepth 100000
set_option linter.unusedVariables false

/-- The value is the vector V; each of its slices lies in a block of its own from lo to hi. -/
structure Own (d : Nat) (V : Vec) (y : Value) (lo hi : Nat) (w : World) : Prop where
  out : ∃ F, OwnVec w d V y F ∧ F.Nodup ∧ ∀ b ∈ F, lo ≤ b ∧ b < hi
/-- Nothing but blocks from lo to hi has changed. -/
structure Within (lo hi : Nat) (w w' : World) : Prop where
  os : w'.os = w.os
  tape : w'.tape = w.tape
  output : w'.output = w.output
  size : w.heap.size ≤ w'.heap.size
  block : ∀ b, b < w.heap.size → (b < lo ∨ hi ≤ b) → w'.heap[b]? = w.heap[b]?
theorem Touch.within {F : List Nat} {lo hi : Nat} {w w' : World} (h : Touch F w w') (hF : ∀ b ∈ F, lo ≤ b ∧ b < hi) : Within lo hi w w' :=
  ⟨h.os, h.tape, h.output, h.size, fun b hb hr => h.block b hb (fun hm => by have := hF b hm; omega)⟩
theorem Within.below {lo hi B : Nat} {w w' : World} (h : Within lo hi w w') (hB : B ≤ lo) (hw : B ≤ w.heap.size) : Below B w w' :=
  ⟨h.os, h.tape, h.output, h.size, fun b hb => h.block b (by omega) (.inl (by omega))⟩
theorem Within.blk {lo hi b : Nat} {w w' : World} {o : Obj} (h : Within lo hi w w') (hr : b < lo ∨ hi ≤ b) (hb : w.heap[b]? = some o) : w'.heap[b]? = some o :=
  (h.block b (Array.getElem?_eq_some_iff.1 hb).1 hr).trans hb
theorem Own.below {d : Nat} {V : Vec} {y : Value} {lo hi : Nat} {w w' : World} (h : Own d V y lo hi w) (hb : Below w.heap.size w w') (hh : hi ≤ w.heap.size) : Own d V y lo hi w' := by
  obtain ⟨F, h1, h2, h3⟩ := h.out
  exact ⟨F, h1.kept _ _ _ _ (fun b hm => hb.block b (by have := h3 b hm; omega)), h2, h3⟩
theorem Own.within {d : Nat} {V : Vec} {y : Value} {lo hi lo' hi' : Nat} {w w' : World} (h : Own d V y lo hi w) (k : Within lo' hi' w w') (hr : hi ≤ lo' ∨ hi' ≤ lo) (hh : hi ≤ w.heap.size) : Own d V y lo hi w' := by
  obtain ⟨F, h1, h2, h3⟩ := h.out
  exact ⟨F, h1.kept _ _ _ _ (fun b hm => k.block b (by have := h3 b hm; omega) (by have := h3 b hm; omega)), h2, h3⟩
theorem Own.vat {d : Nat} {V : Vec} {y : Value} {lo hi : Nat} {w : World} (h : Own d V y lo hi w) {H : Nat} (hh : hi ≤ H) : VecAt 0 H w d V y := by
  obtain ⟨F, h1, _, h3⟩ := h.out
  exact h1.vecAt _ _ _ _ (fun b hm => by have := h3 b hm; omega)
theorem Own.wide {d : Nat} {V : Vec} {y : Value} {lo hi lo' hi' : Nat} {w : World} (h : Own d V y lo hi w) (h0 : lo' ≤ lo) (h1 : hi ≤ hi') : Own d V y lo' hi' w := by
  obtain ⟨F, a, b, c⟩ := h.out
  exact ⟨F, a, b, fun g hg => by have := c g hg; omega⟩
theorem Own.agg {d : Nat} {V : Vec} {y : Value} {lo hi : Nat} {w : World} (h : Own d V y lo hi w) : ∃ (k : Int) (a1 : Option Addr) (n1 m1 : Nat) (a2 : Option Addr) (n2 m2 : Nat) (a3 : Option Addr) (n3 m3 : Nat) (a4 : Option Addr) (n4 m4 : Nat) (a5 : Option Addr) (n5 m5 : Nat) (code env : Int), y = .agg #[.int .i64 k, .slice a1 n1 m1, .slice a2 n2 m2, .slice a3 n3 m3, .slice a4 n4 m4, .slice a5 n5 m5, .int .i64 code, .int .i64 env] := by
  obtain ⟨F, h1, _⟩ := h.out
  exact h1.agg
/-- A function's answer: a vector in new blocks. -/
def ResV (d : Nat) (V : Vec) (w : World) (e : Ending) (w' : World) : Prop := ∃ y, e = .returned y ∧ Own d V y w.heap.size w'.heap.size w' ∧ Below w.heap.size w w'
/-- A function's answer: a vector in new blocks, and a text. -/
def ResVS (d : Nat) (V : Vec) (s : ByteArray) (w : World) (e : Ending) (w' : World) : Prop := ∃ y, e = .returned (.tuple #[y, .string s]) ∧ Own d V y w.heap.size w'.heap.size w' ∧ Below w.heap.size w w'
/-- The mark of a vector of one's own. -/
theorem markOwn (d : Nat) (V : Vec) (y : Value) (lo hi : Nat) (w : World) (h : Own d V y lo hi w) (hh : hi ≤ w.heap.size) (hs : Small d V) (hc : 1 + cntM d V ≤ 8000000) :
    Calls Tryd.prog 12 #[y, .int .i64 1] w fun e w' => e = .returned (.int .i64 ((1 + cntM d V : Nat) : Int)) ∧ Own d (markV d 1 V) y lo hi w' ∧ Within lo hi w w' := by
  obtain ⟨F, h1, h2, h3⟩ := h.out
  refine (markVec d V y 1 F w h1 h2 (fun b hb => by have := h3 b hb; omega) hs (Nat.le_refl _) hc).mono ?_
  rintro e w' ⟨rfl, ho, t⟩
  exact ⟨rfl, ⟨F, ho, h2, h3⟩, t.within h3⟩
theorem heldOwn (d : Nat) (V : Vec) (y : Value) (lo hi : Nat) (w : World) (h : Own d (markV d 1 V) y lo hi w) (hh : hi ≤ w.heap.size) (hs : Small d V) (hc : 1 + cntM d V ≤ 8000000) :
    Calls Tryd.prog 13 #[y, .int .i64 1] w fun e w' => e = .returned (.int .i64 ((1 + cntM d V : Nat) : Int)) ∧ Below w.heap.size w w' :=
  heldVec d V y 1 0 w.heap.size w (h.vat hh) (Nat.le_refl _) hs (Nat.le_refl _) hc
end Go.Proofs.YtjpdnabfpiengaaDoor

/- Slices of ints in memory, and the laws' own helpers on them. -/
namespace Go.Proofs.YtjpdnabfpiengaaDoor
set_option maxRecDepth 100000
open Go.RowKit

/-- The slice at a holds the n ints f 0, f 1, .., in a block below B. -/
def IntsAt (B : Nat) (w : World) (a : Option Addr) (n : Nat) (f : Nat → Int) : Prop := ∀ i, i < n → ∃ b off, a = some ⟨b, off, none⟩ ∧ b < B ∧ w.cell? ⟨b, off + i, none⟩ = some (.int .i64 (f i))
theorem IntsAt.below {B : Nat} {w w1 : World} {a : Option Addr} {n : Nat} {f : Nat → Int} (h : IntsAt B w a n f) (hb : Below B w w1) : IntsAt B w1 a n f := by
  intro i hi
  obtain ⟨b, off, e, hlt, hc⟩ := h i hi
  exact ⟨b, off, e, hlt, by rw [hb.cell hlt]; exact hc⟩
theorem IntsAt.mono {B B' : Nat} {w : World} {a : Option Addr} {n : Nat} {f : Nat → Int} (h : IntsAt B w a n f) (hB : B ≤ B') : IntsAt B' w a n f := by
  intro i hi
  obtain ⟨b, off, e, hlt, hc⟩ := h i hi
  exact ⟨b, off, e, by omega, hc⟩
/-- Block b holds the cells C. -/
def RowI (w : World) (b : Nat) (C : Array Value) : Prop := w.heap[b]? = some (.cells C 3 (0, 0))
theorem RowI.cell {w : World} {b i : Nat} {C : Array Value} {v : Value} (h : RowI w b C) (hv : C[i]? = some v) : w.cell? ⟨b, i, none⟩ = some v := by
  unfold RowI at h; unfold World.cell?; simp only [h]; exact hv
theorem RowI.free {w : World} {b i : Nat} {C : Array Value} (h : RowI w b C) : w.frozen? ⟨b, i, none⟩ = false := by
  unfold RowI at h; unfold World.frozen?; simp only [h]; simp
theorem RowI.set {w : World} {b i : Nat} {C : Array Value} (h : RowI w b C) (v : Value) : RowI (w.setCell ⟨b, i, none⟩ v) b (C.setIfInBounds i v) := Joins.block_setCell h v
theorem RowI.lt {w : World} {b : Nat} {C : Array Value} (h : RowI w b C) : b < w.heap.size := (Array.getElem?_eq_some_iff.1 h).1
/-- A row of n cells whose first k are the ints of f. -/
def FilledI (w : World) (b n k : Nat) (f : Nat → Int) : Prop := ∃ C, RowI w b C ∧ C.size = n ∧ ∀ i, i < k → C[i]? = some (.int .i64 (f i))
theorem FilledI.step {w : World} {b n k : Nat} {f : Nat → Int} (h : FilledI w b n k f) (hk : k < n) : FilledI (w.setCell ⟨b, k, none⟩ (.int .i64 (f k))) b n (k + 1) f := by
  obtain ⟨C, hC, hn, hf⟩ := h
  refine ⟨C.setIfInBounds k (.int .i64 (f k)), hC.set _, by simpa using hn, fun i hi => ?_⟩
  by_cases e : i = k
  · subst e; simp [hn, hk]
  · rw [Array.getElem?_setIfInBounds_ne (by omega)]; exact hf i (by omega)
theorem FilledI.ints {w : World} {b n : Nat} {f : Nat → Int} (h : FilledI w b n n f) : IntsAt w.heap.size w (some ⟨b, 0, none⟩) n f := by
  obtain ⟨C, hC, _, hf⟩ := h
  intro i hi
  exact ⟨b, 0, rfl, hC.lt, by rw [Nat.zero_add]; exact hC.cell (hf i hi)⟩
theorem infoInt : (Tryd.prog.info? 3).map (fun i => (i.zero, i.size, i.bytes)) = some (some (.int .i64 0), 1, 8) := by kernel_rfl
theorem madeI_size (z : Array Value) (n : Nat) (hz : z.size = 1) : (madeCells z n).size = n := by
  unfold madeCells; simp [hz]
theorem madeRowI (w : World) (n : Nat) (f : Nat → Int) : FilledI (w.alloc (.cells (madeCells #[.int .i64 0] n) 3)) w.heap.size n 0 f :=
  ⟨_, (MapKept.heap_alloc w _).1, madeI_size _ n rfl, fun _ hi => absurd hi (Nat.not_lt_zero _)⟩
theorem cellI_lt {w : World} {p : Addr} {v : Value} (h : w.cell? p = some v) : p.block < w.heap.size := by
  unfold World.cell? at h
  rcases Nat.lt_or_ge p.block w.heap.size with h' | h'
  · exact h'
  · rw [Array.getElem?_eq_none h'] at h; cases h
theorem cellsIntOf : Tryd.prog.cellsOf 3 = 1 := by kernel_rfl
/-- What a slice of ints that came in holds. -/
theorem ints_in {H : Type} {enc : TypeId × Value → H} {W : World} {base : Nat} {sp : Nat → Bool} {held : Bool} {fuel : Nat} {a : Option Addr} {n cap : Nat} {x : DataW H × List MemPlace}
    (hf : DataW.trod enc Tryd.prog W base sp held fuel 77 (Value.slice a n cap).cells.toList = some x) :
    ∃ f : Nat → Int, IntsAt W.heap.size W a n f ∧ n ≤ maxLen := by
  rcases ChangeShapes.open_ints Tryd.underlying77 Tryd.underlying3 cellsIntOf hf with ⟨hcs, _⟩ | ⟨b, l, c, zs, hcs, _, hl, hm, hz, _, hcell, hws⟩
  · simp [Value.cells] at hcs
    obtain ⟨rfl, rfl, rfl⟩ := hcs
    exact ⟨fun _ => 0, fun i hi => absurd hi (Nat.not_lt_zero _), Nat.zero_le _⟩
  · simp [Value.cells] at hcs
    obtain ⟨rfl, rfl, rfl⟩ := hcs
    refine ⟨fun i => zs.getD i 0, fun i hi => ?_, by omega⟩
    have hlen : i < zs.length := by rw [hz]; split <;> omega
    have hc := hcell i hlen
    obtain ⟨bb, off, spot⟩ := b
    have hspot : spot = none := by simpa [Addr.add] using World.cell?_spot (hcell 0 (by omega))
    subst hspot
    have e : (⟨bb, off, none⟩ : Addr).add i = ⟨bb, off + i, none⟩ := by
      unfold Addr.add
      split
      · rename_i h; subst h; rfl
      · rfl
    rw [e] at hc
    exact ⟨bb, off, rfl, cellI_lt hc, hc⟩
end Go.Proofs.YtjpdnabfpiengaaDoor

/- Slices of ints and of texts that a law makes of its arguments; the laws' own helpers on them, said by ranges of blocks. -/
namespace Go.Proofs.YtjpdnabfpiengaaDoor
open Go.RowKit
set_option maxRecDepth 100000
set_option linter.unusedVariables false

/-- The slice at a holds n ints f in a block of its own from lo to hi. -/
structure OwnI (a : Option Addr) (n : Nat) (f : Nat → Int) (lo hi : Nat) (w : World) : Prop where
  out : ∃ b C, a = some ⟨b, 0, none⟩ ∧ lo ≤ b ∧ b < hi ∧ w.heap[b]? = some (.cells C 3 (0, 0)) ∧ n ≤ C.size ∧ ∀ i, i < n → C[i]? = some (.int .i64 (f i))
theorem OwnI.below {a : Option Addr} {n : Nat} {f : Nat → Int} {lo hi : Nat} {w w' : World} (h : OwnI a n f lo hi w) (hb : Below w.heap.size w w') (hh : hi ≤ w.heap.size) : OwnI a n f lo hi w' := by
  obtain ⟨b, C, e, h0, h1, h2, r⟩ := h.out
  exact ⟨b, C, e, h0, h1, blk_below hb h2, r⟩
theorem OwnI.within {a : Option Addr} {n : Nat} {f : Nat → Int} {lo hi lo' hi' : Nat} {w w' : World} (h : OwnI a n f lo hi w) (k : Within lo' hi' w w') (hr : hi ≤ lo' ∨ hi' ≤ lo) (hh : hi ≤ w.heap.size) : OwnI a n f lo hi w' := by
  obtain ⟨b, C, e, h0, h1, h2, r⟩ := h.out
  exact ⟨b, C, e, h0, h1, k.blk (by omega) h2, r⟩
theorem OwnI.at_ {a : Option Addr} {n : Nat} {f : Nat → Int} {lo hi : Nat} {w : World} (h : OwnI a n f lo hi w) {H : Nat} (hh : hi ≤ H) : IntsAt H w a n f := by
  obtain ⟨b, C, e, h0, h1, h2, _, r⟩ := h.out
  intro i hi'
  exact ⟨b, 0, e, by omega, by rw [Nat.zero_add]; exact cellOf h2 (r i hi')⟩
/-- The slice at a holds the n texts f in a block of its own from lo to hi. -/
structure OwnS (a : Option Addr) (n : Nat) (f : Nat → ByteArray) (lo hi : Nat) (w : World) : Prop where
  out : ∃ b C, a = some ⟨b, 0, none⟩ ∧ lo ≤ b ∧ b < hi ∧ w.heap[b]? = some (.cells C 9 (0, 0)) ∧ n ≤ C.size ∧ ∀ i, i < n → C[i]? = some (.string (f i))
theorem OwnS.below {a : Option Addr} {n : Nat} {f : Nat → ByteArray} {lo hi : Nat} {w w' : World} (h : OwnS a n f lo hi w) (hb : Below w.heap.size w w') (hh : hi ≤ w.heap.size) : OwnS a n f lo hi w' := by
  obtain ⟨b, C, e, h0, h1, h2, r⟩ := h.out
  exact ⟨b, C, e, h0, h1, blk_below hb h2, r⟩
theorem OwnS.within {a : Option Addr} {n : Nat} {f : Nat → ByteArray} {lo hi lo' hi' : Nat} {w w' : World} (h : OwnS a n f lo hi w) (k : Within lo' hi' w w') (hr : hi ≤ lo' ∨ hi' ≤ lo) (hh : hi ≤ w.heap.size) : OwnS a n f lo hi w' := by
  obtain ⟨b, C, e, h0, h1, h2, r⟩ := h.out
  exact ⟨b, C, e, h0, h1, k.blk (by omega) h2, r⟩
theorem OwnS.at_ {a : Option Addr} {n : Nat} {f : Nat → ByteArray} {lo hi : Nat} {w : World} (h : OwnS a n f lo hi w) {H : Nat} (hh : hi ≤ H) : StrsAt H w a n f := by
  obtain ⟨b, C, e, h0, h1, h2, _, r⟩ := h.out
  intro i hi'
  exact ⟨b, 0, e, by omega, by rw [Nat.zero_add]; exact cellOf h2 (r i hi')⟩
theorem toStrsR (a : Option Addr) (n cap : Nat) (f : Nat → ByteArray) (B : Nat) (w : World) (hs : StrsAt B w a n f) (hB : B ≤ w.heap.size) (hn : n ≤ 1048576) :
    Calls Tryd.prog 20 #[.slice a n cap] w fun e w' => ∃ x, e = .returned (.slice x n n) ∧ OwnS x n f w.heap.size w'.heap.size w' ∧ Below w.heap.size w w' := by
  refine (toStrs a n cap f w (hs.mono hB) hn).mono ?_
  rintro e w' ⟨rfl, ⟨C, hC, hn', r⟩, hb⟩
  exact ⟨_, rfl, ⟨_, C, rfl, Nat.le_refl _, hC.lt, hC, by omega, r⟩, hb⟩
theorem eqStrsR (a b : Option Addr) (n ca cb : Nat) (f : Nat → ByteArray) (B : Nat) (w : World) (ha : StrsAt B w a n f) (hb : StrsAt B w b n f) (hn : n ≤ 1048576) :
    Calls Tryd.prog 23 #[.slice a n ca, .slice b n cb] w fun e w' => e = .returned (.bool true) ∧ Below w.heap.size w w' := by
  refine (eqStrs a b n ca cb f f B w ha hb (by omega) (fun _ _ => rfl)).mono ?_
  rintro e w' ⟨rfl, m, rfl⟩
  exact ⟨rfl, below_drewN' (Below.refl _ _) m⟩
theorem markStrsR (a : Option Addr) (n c k : Nat) (f : Nat → ByteArray) (lo hi : Nat) (w : World) (h : OwnS a n f lo hi w) (hn : n ≤ 1048576) (h1 : 1 ≤ k) (hk : k + n ≤ 9000000) :
    Calls Tryd.prog 25 #[.slice a n c, .int .i64 k] w fun e w' => e = .returned (.int .i64 ((k : Int) + (n : Int))) ∧ Within lo hi w w' := by
  obtain ⟨b, C, rfl, h0, hb1, hC, hnC, r⟩ := h.out
  have hl : ((List.range n).map f).length = n := by simp
  have ho : OwnTxs w (some ⟨b, 0, none⟩) ((List.range n).map f) [b] := by
    refine .inr ⟨b, C, rfl, rfl, hC, by rw [hl]; exact hnC, fun i hi => ?_⟩
    rw [hl] at hi
    rw [r i hi]; unfold txtS; simp [List.getD_eq_getElem?_getD, hi]
  have hm := markTxs ((List.range n).map f) (some ⟨b, 0, none⟩) c k [b] w ho (by omega) h1 (by omega)
  rw [hl] at hm
  refine hm.mono ?_
  rintro e w' ⟨rfl, _, t⟩
  exact ⟨rfl, t.within (fun g hg => by obtain rfl := List.mem_singleton.1 hg; exact ⟨h0, hb1⟩)⟩
end Go.Proofs.YtjpdnabfpiengaaDoor

/- Three-valued logic on ints: the program's and the reference's functions. -/
namespace Go.Proofs.YtjpdnabfpiengaaDoor
set_option maxRecDepth 100000
open Go.RowKit
set_option linter.unusedVariables false

/-- The three values: 0, 1 and missing. -/
def vL (x : Int) : Int := if x = 0 then 0 else if x = 1 then 1 else 2
def nL (x : Int) : Int := if x = 0 then 1 else if x = 1 then 0 else 2
def aL (x y : Int) : Int := if x = 0 ∨ y = 0 then 0 else if x = 1 ∧ y = 1 then 1 else 2
def oL (x y : Int) : Int := if x = 1 ∨ y = 1 then 1 else if x = 0 ∧ y = 0 then 0 else 2
def xL (x y : Int) : Int := if (x = 0 ∨ x = 1) ∧ (y = 0 ∨ y = 1) then (if x = y then 0 else 1) else 2
def L3 (x : Int) : Prop := x = 0 ∨ x = 1 ∨ x = 2
theorem vL_three (x : Int) : L3 (vL x) := by unfold vL L3; split <;> (try split) <;> omega
theorem nL_three (x : Int) : L3 (nL x) := by unfold nL L3; split <;> (try split) <;> omega
theorem aL_three (x y : Int) : L3 (aL x y) := by unfold aL L3; split <;> (try split) <;> omega
theorem oL_three (x y : Int) : L3 (oL x y) := by unfold oL L3; split <;> (try split) <;> omega
theorem xL_three (x y : Int) : L3 (xL x y) := by unfold xL L3; split <;> (try split) <;> omega
theorem L3.in {x : Int} (h : L3 x) : -9223372036854775808 ≤ x ∧ x ≤ 9223372036854775807 := by unfold L3 at h; omega
theorem vL_self {x : Int} (h : L3 x) : vL x = x := by rcases h with rfl | rfl | rfl <;> rfl
theorem nL_v (x : Int) : nL (vL x) = nL x := by unfold nL vL; repeat' split
                                                all_goals omega
theorem aL_v (x y : Int) : aL (vL x) (vL y) = aL x y := by unfold aL vL; repeat' split
                                                           all_goals omega
theorem aL_r (x y : Int) : aL x (vL y) = aL x y := by unfold aL vL; repeat' split
                                                      all_goals omega
theorem oL_v (x y : Int) : oL (vL x) (vL y) = oL x y := by unfold oL vL; repeat' split
                                                           all_goals omega
theorem oL_r (x y : Int) : oL x (vL y) = oL x y := by unfold oL vL; repeat' split
                                                      all_goals omega
theorem xL_v (x y : Int) : xL (vL x) (vL y) = xL x y := by unfold xL vL; repeat' split
                                                           all_goals omega
theorem oL_morgan (x y : Int) : nL (aL (nL x) (nL y)) = oL x y := by unfold nL aL oL; repeat' split
                                                                     all_goals omega
theorem aL_morgan (x y : Int) : nL (oL (nL x) (nL y)) = aL x y := by unfold nL aL oL; repeat' split
                                                                     all_goals omega
theorem xL_parts (x y : Int) : oL (aL x (nL y)) (aL (nL x) y) = xL x y := by unfold nL aL oL xL; repeat' split
                                                                             all_goals omega
theorem oL_comm (x y : Int) : oL y x = oL x y := by unfold oL; repeat' split
                                                    all_goals omega
theorem nL_oL (x y : Int) : oL (nL x) (nL y) = nL (aL x y) := by unfold nL aL oL; repeat' split
                                                                 all_goals omega
theorem ret_l {a b : Int} (h : a = b) : Ending.returned (.int .i64 a) = .returned (.int .i64 b) := by rw [h]

set_option maxHeartbeats 1000000 in
theorem in01 (x : Int) (w : World) :
    Calls Tryd.prog 44 #[.int .i64 x, .int .i64 0, .int .i64 1] w fun e w' => e = .returned (.bool (decide (x = 0 ∨ x = 1))) ∧ w = w' := by
  by_cases h0 : x < 0
  · rw [show decide (x = 0 ∨ x = 1) = false from decide_eq_false (by omega)]
    go_enter Tryd.func44, Tryd.ntmps44
    go_wp2
    go_ret
    exact ⟨rfl, rfl⟩
  · by_cases h1 : 1 < x
    · rw [show decide (x = 0 ∨ x = 1) = false from decide_eq_false (by omega)]
      go_enter Tryd.func44, Tryd.ntmps44
      go_wp2
      go_ret
      exact ⟨congrArg (fun b => Ending.returned (.bool b)) (decide_eq_false (by omega)), rfl⟩
    · rw [show decide (x = 0 ∨ x = 1) = true from decide_eq_true (by omega)]
      have g0 : 0 ≤ x := by omega
      have g1 : x ≤ 1 := by omega
      go_enter Tryd.func44, Tryd.ntmps44
      go_wp2
      go_ret
      exact ⟨rfl, rfl⟩

theorem aL_max {x y : Int} (hx : ¬ x = 0) (hy : ¬ y = 0) : ∃ u v : Int, vL x = u ∧ vL y = v ∧ 1 ≤ u ∧ u ≤ 2 ∧ 1 ≤ v ∧ v ≤ 2 ∧ aL x y = max u v := by
  refine ⟨_, _, rfl, rfl, ?_⟩
  unfold aL vL; repeat' split
  all_goals omega

end Go.Proofs.YtjpdnabfpiengaaDoor

/- Vectors of items that a call builds; LogicalVector of the program. -/
namespace Go.Proofs.YtjpdnabfpiengaaDoor
open Go.RowKit
set_option maxRecDepth 100000
set_option linter.unusedVariables false

/-- A vector of items alone. -/
def vecOf (k : Int) (l : List It) : Vec := .mk k l [] [] [] [] 0 0
def itF (g : Nat → It) (n : Nat) : List It := (List.range n).map g
theorem itF_len (g : Nat → It) (n : Nat) : (itF g n).length = n := by simp [itF]
theorem itF_succ (g : Nat → It) (n : Nat) : itF g n ++ [g n] = itF g (n + 1) := by unfold itF; rw [List.range_succ, List.map_append]; rfl
theorem itF_zero (g : Nat → It) : itF g 0 = [] := rfl
theorem ret_eq {a b : Value} (h : a = b) : Ending.returned a = .returned b := by rw [h]
theorem own_zero (lo hi : Nat) (w : World) : Own 1 noV (.agg #[.int .i64 0, .slice none 0 0, .slice none 0 0, .slice none 0 0, .slice none 0 0, .slice none 0 0, .int .i64 0, .int .i64 0]) lo hi w := by
  refine ⟨[], ?_, List.nodup_nil, (fun _ h => by cases h)⟩
  show OwnVec w 1 (.mk 0 [] [] [] [] [] 0 0) _ []
  unfold OwnVec
  exact ⟨none, 0, none, 0, none, 0, none, 0, none, 0, [], [], [], [], [], rfl, rfl, ⟨Nat.le_refl _, Nat.le_refl _, Nat.le_refl _, Nat.le_refl _, Nat.le_refl _⟩, .inl ⟨rfl, rfl⟩, .inl ⟨rfl, rfl⟩, .inl ⟨rfl, rfl⟩, .inl ⟨rfl, rfl⟩, .inl ⟨rfl, rfl⟩⟩
/-- A vector whose items the call has built. -/
theorem own_vecOf {w : World} {B lo : Nat} {k : Int} {l : List It} {sa : Option Addr} {sn sc : Nat} (h : w.ownsRow B 56 3 (.slice sa sn sc) l.length (itCells l)) (hB : lo ≤ B) : Own 1 (vecOf k l) (.agg #[.int .i64 k, .slice sa sn sc, .slice none 0 0, .slice none 0 0, .slice none 0 0, .slice none 0 0, .int .i64 0, .int .i64 0]) lo w.heap.size w := by
  obtain ⟨a, c, F, e, ho, hn, hr, hc⟩ := own_of_its h
  obtain ⟨rfl, rfl, rfl⟩ : sa = a ∧ sn = l.length ∧ sc = c := by simpa using e
  refine ⟨F, ?_, hn, fun b hb => by have := hr b hb; omega⟩
  show OwnVec w 1 (.mk k l [] [] [] [] 0 0) _ F
  unfold OwnVec
  exact ⟨sa, sc, none, 0, none, 0, none, 0, none, 0, F, [], [], [], [], rfl, by simp, ⟨hc, Nat.le_refl _, Nat.le_refl _, Nat.le_refl _, Nat.le_refl _⟩, ho, .inl ⟨rfl, rfl⟩, .inl ⟨rfl, rfl⟩, .inl ⟨rfl, rfl⟩, .inl ⟨rfl, rfl⟩⟩
theorem small_vecOf {k : Int} {l : List It} (h : l.length ≤ 1048576) (ht : ∀ x ∈ l, x.t.size ≤ 1048576) : Small 1 (vecOf k l) := by
  show Small 1 (.mk k l [] [] [] [] 0 0)
  unfold Small
  exact ⟨h, Nat.zero_le _, Nat.zero_le _, Nat.zero_le _, Nat.zero_le _, ht, (fun _ h => by cases h), (fun _ h => by cases h), (fun _ h => by cases h), (fun _ h => by cases h)⟩
theorem small_noV : Small 1 noV := by
  show Small 1 (.mk 0 [] [] [] [] [] 0 0)
  unfold Small
  exact ⟨Nat.zero_le _, Nat.zero_le _, Nat.zero_le _, Nat.zero_le _, Nat.zero_le _, (fun _ h => by cases h), (fun _ h => by cases h), (fun _ h => by cases h), (fun _ h => by cases h), (fun _ h => by cases h)⟩
theorem fits_vecOf {k : Int} {l : List It} (hk : -9223372036854775808 ≤ k ∧ k ≤ 9223372036854775807) (h : l.length ≤ 1048576) (ht : ∀ x ∈ l, InB x) : Fits 1 (vecOf k l) := by
  show Fits 1 (.mk k l [] [] [] [] 0 0)
  unfold Fits
  refine ⟨hk, ⟨by decide, by decide⟩, ⟨by decide, by decide⟩, by unfold maxLen; omega, Nat.zero_le _, Nat.zero_le _, Nat.zero_le _, Nat.zero_le _, fun x hx => ht x hx, (fun _ h => by cases h), (fun _ h => by cases h), (fun _ h => by cases h), (fun _ h => by cases h)⟩
theorem fits_noV : Fits 1 noV := by
  show Fits 1 (.mk 0 [] [] [] [] [] 0 0)
  unfold Fits
  exact ⟨⟨by decide, by decide⟩, ⟨by decide, by decide⟩, ⟨by decide, by decide⟩, Nat.zero_le _, Nat.zero_le _, Nat.zero_le _, Nat.zero_le _, Nat.zero_le _, (fun _ h => by cases h), (fun _ h => by cases h), (fun _ h => by cases h), (fun _ h => by cases h), (fun _ h => by cases h)⟩
/-- What a loop that appends items keeps: the result's block, the vector's block behind it, the items so far. -/
structure AppL (w wr : World) (kind : Int) (l : List It) (sa : Option Addr) (sn sc : Nat) : Prop where
  res : wr.heap[w.heap.size]? = some (.cells #[.int .i64 0, .slice none 0 0, .slice none 0 0, .slice none 0 0, .slice none 0 0, .slice none 0 0, .int .i64 0, .int .i64 0] 31 (0, 0))
  vec : wr.heap[w.heap.size + 1]? = some (.cells #[.int .i64 kind, .slice sa sn sc, .slice none 0 0, .slice none 0 0, .slice none 0 0, .slice none 0 0, .int .i64 0, .int .i64 0] 31 (0, 0))
  row : wr.ownsRow (w.heap.size + 2) 56 3 (.slice sa sn sc) l.length (itCells l)
  below : Below w.heap.size w wr
theorem AppL.big {w wr : World} {kind : Int} {l : List It} {sa : Option Addr} {sn sc : Nat} (h : AppL w wr kind l sa sn sc) : w.heap.size + 1 < wr.heap.size := (Array.getElem?_eq_some_iff.1 h.vec).1
theorem AppL.keep {w wr w1 : World} {kind : Int} {l : List It} {sa : Option Addr} {sn sc : Nat} (h : AppL w wr kind l sa sn sc) (hb : Below wr.heap.size wr w1) : AppL w w1 kind l sa sn sc :=
  ⟨blk_below hb h.res, blk_below hb h.vec, ownsRow_below h.row hb, below_then h.below hb⟩
theorem AppL.heldC {w wr : World} {kind : Int} {l : List It} {sa : Option Addr} {sn sc : Nat} (h : AppL w wr kind l sa sn sc) : HeldC w wr [(w.heap.size, 31, #[.int .i64 0, .slice none 0 0, .slice none 0 0, .slice none 0 0, .slice none 0 0, .slice none 0 0, .int .i64 0, .int .i64 0]), (w.heap.size + 1, 31, #[.int .i64 kind, .slice sa sn sc, .slice none 0 0, .slice none 0 0, .slice none 0 0, .slice none 0 0, .int .i64 0, .int .i64 0])] := heldC_two h.below h.res h.vec
theorem AppL.far {w wr : World} {kind : Int} {l : List It} {sa : Option Addr} {sn sc : Nat} (h : AppL w wr kind l sa sn sc) {q : Nat × TypeId × Array Value} (hq : q ∈ [(w.heap.size, 31, #[.int .i64 0, .slice none 0 0, .slice none 0 0, .slice none 0 0, .slice none 0 0, .slice none 0 0, .int .i64 0, .int .i64 0]), (w.heap.size + 1, 31, #[.int .i64 kind, .slice sa sn sc, .slice none 0 0, .slice none 0 0, .slice none 0 0, .slice none 0 0, .int .i64 0, .int .i64 0])]) : ∀ k, (Value.slice sa sn sc).ownBlock = some k → q.1 ≠ k := by
  intro k hk e
  have h1 := (h.row.lt k hk).1
  rcases List.mem_cons.1 hq with rfl | hq
  · simp only at e; omega
  · obtain rfl := List.mem_singleton.1 hq
    simp only at e; omega
theorem AppL.start (w : World) (kind : Int) : AppL w ((w.alloc (.cells #[.int .i64 0, .slice none 0 0, .slice none 0 0, .slice none 0 0, .slice none 0 0, .slice none 0 0, .int .i64 0, .int .i64 0] 31)).alloc (.cells #[.int .i64 kind, .slice none 0 0, .slice none 0 0, .slice none 0 0, .slice none 0 0, .slice none 0 0, .int .i64 0, .int .i64 0] 31)) kind [] none 0 0 := by
  have h0 : (w.alloc (.cells #[.int .i64 0, .slice none 0 0, .slice none 0 0, .slice none 0 0, .slice none 0 0, .slice none 0 0, .int .i64 0, .int .i64 0] 31)).heap.size = w.heap.size + 1 := by simp
  refine ⟨blk_old (blk_new w _ rfl), ?_, ⟨rfl, .inl ⟨rfl, rfl⟩⟩, (below1 w _).alloc (by simp) _⟩
  have := blk_new (w.alloc (.cells #[.int .i64 0, .slice none 0 0, .slice none 0 0, .slice none 0 0, .slice none 0 0, .slice none 0 0, .int .i64 0, .int .i64 0] 31)) (.cells #[.int .i64 kind, .slice none 0 0, .slice none 0 0, .slice none 0 0, .slice none 0 0, .slice none 0 0, .int .i64 0, .int .i64 0] 31) rfl
  rwa [h0] at this
theorem AppL.next {w W : World} {kind : Int} {l : List It} {z : It} {sa sa' : Option Addr} {sn sc sn' sc' : Nat} (hK : W.heap[w.heap.size + 1]? = some (.cells (#[.int .i64 kind, .slice sa sn sc, .slice none 0 0, .slice none 0 0, .slice none 0 0, .slice none 0 0, .int .i64 0, .int .i64 0].setIfInBounds 1 (.slice sa' sn' sc')) 31 (0, 0)))
    (hO : W.ownsRow (w.heap.size + 2) 56 3 (.slice sa' sn' sc') (l ++ [z]).length (itCells (l ++ [z]))) (hB : Below w.heap.size w W)
    (hR : ∀ q ∈ [(w.heap.size, 31, #[.int .i64 0, .slice none 0 0, .slice none 0 0, .slice none 0 0, .slice none 0 0, .slice none 0 0, .int .i64 0, .int .i64 0]), (w.heap.size + 1, 31, #[.int .i64 kind, .slice sa sn sc, .slice none 0 0, .slice none 0 0, .slice none 0 0, .slice none 0 0, .int .i64 0, .int .i64 0])], q.1 ≠ w.heap.size + 1 → W.heap[q.1]? = some (.cells q.2.2 q.2.1 (0, 0))) : AppL w W kind (l ++ [z]) sa' sn' sc' :=
  ⟨hR _ (List.Mem.head _) (by simp only; omega), hK, hO, hB⟩
theorem free8 {w : World} {b : Nat} {C : Array Value} {t : TypeId} (h : w.heap[b]? = some (.cells C t (0, 0))) : w.frozen? ⟨b, 0, none⟩ = false ∧ w.frozen? ⟨b, 1, none⟩ = false ∧ w.frozen? ⟨b, 2, none⟩ = false ∧ w.frozen? ⟨b, 3, none⟩ = false ∧ w.frozen? ⟨b, 4, none⟩ = false ∧ w.frozen? ⟨b, 5, none⟩ = false ∧ w.frozen? ⟨b, 6, none⟩ = false ∧ w.frozen? ⟨b, 7, none⟩ = false :=
  ⟨freeOf h, freeOf h, freeOf h, freeOf h, freeOf h, freeOf h, freeOf h, freeOf h⟩
/-- A vector that has just been stored into the result's block. -/
theorem vec_end {fn : Func} {R : Ending → World → Prop} {act : Act} {w : World} {g : Nat} {p : Tmp} {z0 z1 z2 z3 z4 z5 z6 z7 c0 c1 c2 c3 c4 c5 c6 c7 : Value} {t : TypeId}
    (hfn : fn.results = #[.cell p 31]) (hp : act.tmps.getD p undef = .pointer (some ⟨g, 0, none⟩)) (hd : act.defers = []) (hg : w.heap[g]? = some (.cells #[z0, z1, z2, z3, z4, z5, z6, z7] t (0, 0)))
    (hR : R (.returned (.agg #[c0, c1, c2, c3, c4, c5, c6, c7])) (put8 w g 0 c0 c1 c2 c3 c4 c5 c6 c7)) :
    bodyPost Tryd.prog fn R .ret act ((((((((w.setCell ⟨g, 0, none⟩ c0).setCell ⟨g, 1, none⟩ c1).setCell ⟨g, 2, none⟩ c2).setCell ⟨g, 3, none⟩ c3).setCell ⟨g, 4, none⟩ c4).setCell ⟨g, 5, none⟩ c5).setCell ⟨g, 6, none⟩ c6).setCell ⟨g, 7, none⟩ c7) :=
  vec_ret0 hfn hp hd (put8_lit hg) hR
theorem Own.put8 {d : Nat} {V : Vec} {y : Value} {lo hi : Nat} {w : World} (h : Own d V y lo hi w) {g p : Nat} (hg : g < lo) (c0 c1 c2 c3 c4 c5 c6 c7 : Value) : Own d V y lo hi (put8 w g p c0 c1 c2 c3 c4 c5 c6 c7) := by
  obtain ⟨F, h1, h2, h3⟩ := h.out
  exact ⟨F, h1.kept _ _ _ _ (fun b hb => put8_other (by have := h3 b hb; omega)), h2, h3⟩
theorem put8_size {w : World} {g p : Nat} {c0 c1 c2 c3 c4 c5 c6 c7 : Value} : (put8 w g p c0 c1 c2 c3 c4 c5 c6 c7).heap.size = w.heap.size := by unfold put8; simp
theorem AppL.fin {w wr : World} {kind : Int} {l : List It} {sa : Option Addr} {sn sc : Nat} (h : AppL w wr kind l sa sn sc) : ResV 1 (vecOf kind l) w (.returned (.agg #[.int .i64 kind, .slice sa sn sc, .slice none 0 0, .slice none 0 0, .slice none 0 0, .slice none 0 0, .int .i64 0, .int .i64 0])) (put8 wr w.heap.size 0 (.int .i64 kind) (.slice sa sn sc) (.slice none 0 0) (.slice none 0 0) (.slice none 0 0) (.slice none 0 0) (.int .i64 0) (.int .i64 0)) := by
  have ho := own_vecOf (k := kind) (lo := w.heap.size + 2) h.row (Nat.le_refl _)
  refine ⟨_, rfl, ((ho.put8 (by omega) _ _ _ _ _ _ _ _).wide (by omega) ?_), put8_below h.below (Nat.le_refl _)⟩
  rw [put8_size]
  exact Nat.le_refl _
theorem AppL.set3 {w wr : World} {kind : Int} {l : List It} {sa : Option Addr} {sn sc g : Nat} {x y z : Value} (h : AppL w wr kind l sa sn sc) (h0 : w.heap.size ≤ g) (hf : ∀ j, (Value.slice sa sn sc).ownBlock = some j → j ≠ g) (hg : w.heap.size + 1 < g) :
    AppL w (((wr.setCell ⟨g, 0, none⟩ x).setCell ⟨g, 1, none⟩ y).setCell ⟨g, 2, none⟩ z) kind l sa sn sc := by
  refine ⟨blk_set3' h.res (by omega), blk_set3' h.vec (by omega), ?_, below_three h.below h0 _ _ _⟩
  obtain ⟨hl, h1⟩ := h.row
  refine ⟨hl, h1.imp id ?_⟩
  rintro ⟨b, cap, cur, e, hB, hb, r⟩
  exact ⟨b, cap, cur, e, hB, blk_set3' hb (hf b (by rw [e]; rfl)), r⟩
/-- The item of a logical value. -/
def logI (x : Int) : It := if x = 0 then ⟨0, 1, ⟨#[]⟩⟩ else if x = 1 then ⟨1, 1, ⟨#[]⟩⟩ else noI
theorem specNum2 (n : Int) (w : World) :
    Calls Tryd.prog 32 #[.int .i64 n] w fun e w' => e = .returned (.agg #[.int .i64 n, .int .i64 1, .string ⟨#[]⟩]) ∧ Below w.heap.size w w' := by
  go_enter Tryd.func32, Tryd.ntmps32
  go_wp2
  first | exact item_ret0 rfl rfl rfl (blk_new _ _ rfl) ⟨rfl, below1 w _⟩ | exact item_ret rfl rfl rfl (blk_new _ _ rfl) ⟨rfl, below_three (below1 w _) (Nat.le_refl _) _ _ _⟩
theorem logI_v (x : Int) : logI (vL x) = logI x := by
  unfold logI vL
  by_cases h0 : x = 0
  · simp [h0]
  · by_cases h1 : x = 1
    · simp [h1]
    · simp [h0, h1]
theorem heldC_cons {w v : World} {L : List (Nat × TypeId × Array Value)} {g : Nat} {t : TypeId} {C : Array Value} (h : HeldC w v L) (hb : v.heap[g]? = some (.cells C t (0, 0))) : HeldC w v ((g, t, C) :: L) :=
  ⟨h.1, fun q hq => by
    rcases List.mem_cons.1 hq with rfl | hq
    · exact hb
    · exact h.2 q hq⟩
theorem AppL.far2 {w wr : World} {kind : Int} {l : List It} {sa : Option Addr} {sn sc : Nat} (h : AppL w wr kind l sa sn sc) {C : Array Value} {q : Nat × TypeId × Array Value} (hq : q ∈ (wr.heap.size, 56, C) :: [(w.heap.size, 31, #[.int .i64 0, .slice none 0 0, .slice none 0 0, .slice none 0 0, .slice none 0 0, .slice none 0 0, .int .i64 0, .int .i64 0]), (w.heap.size + 1, 31, #[.int .i64 kind, .slice sa sn sc, .slice none 0 0, .slice none 0 0, .slice none 0 0, .slice none 0 0, .int .i64 0, .int .i64 0])]) : ∀ k, (Value.slice sa sn sc).ownBlock = some k → q.1 ≠ k := by
  rcases List.mem_cons.1 hq with rfl | hq
  · intro k hk e
    have h1 := (h.row.lt k hk).2
    simp only at e; omega
  · exact h.far hq
end Go.Proofs.YtjpdnabfpiengaaDoor

/- Vectors of items alone as results of laws: they are small, they fit, and their marks are few; ints that come in, with their bounds. -/
namespace Go.Proofs.YtjpdnabfpiengaaDoor
open Go.RowKit
set_option maxRecDepth 100000
set_option linter.unusedVariables false

theorem mem_itF {g : Nat → It} {n : Nat} {x : It} (h : x ∈ itF g n) : ∃ i, i < n ∧ x = g i := by
  obtain ⟨i, hi, rfl⟩ := List.mem_map.1 h
  exact ⟨i, List.mem_range.1 hi, rfl⟩
theorem cnt_vecOf (k : Int) (l : List It) : cntM 1 (vecOf k l) = 3 * l.length := by
  show cntM 1 (.mk k l [] [] [] [] 0 0) = _
  rw [cntM_eq]
  show 3 * l.length + sumN _ 0 + 0 + 0 + 0 = _
  simp [sumN]
theorem cnt_noV : cntM 1 noV = 0 := by
  show cntM 1 (.mk 0 [] [] [] [] [] 0 0) = _
  rw [cntM_eq]
  show 3 * 0 + sumN _ 0 + 0 + 0 + 0 = _
  simp [sumN]
theorem small_res (k : Int) (g : Nat → It) (n : Nat) (h : ∀ i, (g i).t.size ≤ 1048576) : Small 1 (if n ≤ 40 then vecOf k (itF g n) else noV) := by
  split
  · exact small_vecOf (by rw [itF_len]; omega) (fun x hx => by obtain ⟨i, _, rfl⟩ := mem_itF hx; exact h i)
  · exact small_noV
theorem fits_res (k : Int) (g : Nat → It) (n : Nat) (hk : -9223372036854775808 ≤ k ∧ k ≤ 9223372036854775807) (h : ∀ i, InB (g i)) : Fits 1 (if n ≤ 40 then vecOf k (itF g n) else noV) := by
  split
  · exact fits_vecOf hk (by rw [itF_len]; omega) (fun x hx => by obtain ⟨i, _, rfl⟩ := mem_itF hx; exact h i)
  · exact fits_noV
theorem cnt_res (k : Int) (g : Nat → It) (n : Nat) : 1 + cntM 1 (if n ≤ 40 then vecOf k (itF g n) else noV) ≤ 8000000 := by
  split
  · rw [cnt_vecOf, itF_len]; omega
  · rw [cnt_noV]; omega
theorem logI_t (x : Int) : (logI x).t.size ≤ 1048576 := by
  unfold logI; repeat' split
  all_goals exact Nat.zero_le _
theorem inB_small {n d : Int} (h : (-9223372036854775808 ≤ n ∧ n ≤ 9223372036854775807) ∧ (-9223372036854775808 ≤ d ∧ d ≤ 9223372036854775807)) : InB ⟨n, d, ⟨#[]⟩⟩ := ⟨h.1, h.2, Nat.zero_le _⟩
theorem inB_noI : InB noI := inB_small (by decide)
theorem logI_in (x : Int) : InB (logI x) := by
  unfold logI; split
  · exact inB_small (by decide)
  · split
    · exact inB_small (by decide)
    · exact inB_noI
/-- What a slice of ints that came in holds, with the bounds of its ints. -/
theorem ints_inb {H : Type} {enc : TypeId × Value → H} {W : World} {base : Nat} {sp : Nat → Bool} {held : Bool} {fuel : Nat} {a : Option Addr} {n cap : Nat} {x : DataW H × List MemPlace}
    (hf : DataW.trod enc Tryd.prog W base sp held fuel 77 (Value.slice a n cap).cells.toList = some x) :
    ∃ f : Nat → Int, IntsAt W.heap.size W a n f ∧ n ≤ maxLen ∧ ∀ i, -9223372036854775808 ≤ f i ∧ f i ≤ 9223372036854775807 := by
  rcases ChangeShapes.open_ints Tryd.underlying77 Tryd.underlying3 cellsIntOf hf with ⟨hcs, _⟩ | ⟨b, l, c, zs, hcs, _, hl, hm, hz, _, hcell, hws⟩
  · simp [Value.cells] at hcs
    obtain ⟨rfl, rfl, rfl⟩ := hcs
    exact ⟨fun _ => 0, fun i hi => absurd hi (Nat.not_lt_zero _), Nat.zero_le _, fun _ => ⟨by simp, by simp⟩⟩
  · simp [Value.cells] at hcs
    obtain ⟨rfl, rfl, rfl⟩ := hcs
    refine ⟨fun i => zs.getD i 0, fun i hi => ?_, by omega, fun i => ?_⟩
    · have hlen : i < zs.length := by rw [hz]; split <;> omega
      have hc := hcell i hlen
      obtain ⟨bb, off, spot⟩ := b
      have hspot : spot = none := by simpa [Addr.add] using World.cell?_spot (hcell 0 (by omega))
      subst hspot
      rw [addr_add] at hc
      exact ⟨bb, off, rfl, cellI_lt hc, hc⟩
    · rcases Nat.lt_or_ge i zs.length with h | h
      · have e : zs.getD i 0 = zs[i] := by simp [List.getD_eq_getElem?_getD, List.getElem?_eq_getElem h]
        show -9223372036854775808 ≤ zs.getD i 0 ∧ zs.getD i 0 ≤ 9223372036854775807
        rw [e]
        exact Go.bounds_i64 (hws _ (List.getElem_mem h))
      · have e : zs.getD i 0 = 0 := by simp [List.getD_eq_getElem?_getD, List.getElem?_eq_none h]
        show -9223372036854775808 ≤ zs.getD i 0 ∧ zs.getD i 0 ≤ 9223372036854775807
        rw [e]; decide
end Go.Proofs.YtjpdnabfpiengaaDoor

/- TextVector on both sides. -/
namespace Go.Proofs.YtjpdnabfpiengaaDoor
open Go.RowKit
set_option maxRecDepth 100000
set_option linter.unusedVariables false

def txE (s : ByteArray) : It := ⟨0, 1, s⟩
theorem valid_vecOf {k : Int} {l : List It} (hk : 1 ≤ k ∧ k ≤ 3) : ValidV (vecOf k l) ↔ l.length ≤ 40 ∧ ∀ i, i < l.length → ItOk k (l.getD i noI) := by
  have e4 : cellsV 3 (vecOf k l) = lenV k l.length 0 := by
    show lengthV _ + sumN _ 0 = _
    simp [sumN]; rfl
  have e5 : lenV k l.length 0 = l.length := by unfold lenV; rw [if_neg (by omega)]; rfl
  have z : ∀ i, i < ([] : List ByteArray).length → False := fun i h => Nat.not_lt_zero _ h
  constructor
  · rintro ⟨h, _⟩
    have hf : FlatOk k l 0 [] [] [] 0 0 := h.flat
    exact ⟨by have := hf.h_len; omega, fun i hi => (hf.h_items i hi).1⟩
  · rintro ⟨h1, h2⟩
    have hf : FlatOk k l 0 [] [] [] 0 0 := ⟨by omega, by omega, .inl rfl, ⟨fun i h => (z i h).elim, .inl rfl⟩, ⟨Nat.zero_le _, fun i h => (z i h).elim⟩, ⟨Nat.zero_le _, fun i h => (z i h).elim⟩, fun _ => ⟨rfl, rfl⟩, fun _ => rfl, fun _ => rfl, fun h => by omega, fun h => by omega, fun h => by omega, fun i hi => ⟨h2 i hi, .inl rfl⟩⟩
    exact ⟨⟨hf, fun i h => (Nat.not_lt_zero i h).elim⟩, by omega⟩
theorem itF_getD (g : Nat → It) {i n : Nat} (h : i < n) : (itF g n).getD i noI = g i := by unfold itF; simp [List.getD_eq_getElem?_getD, h]
theorem valid_txt {f : Nat → ByteArray} {n : Nat} (h : n ≤ 40) : ValidV (vecOf 3 (itF (fun i => txE (f i)) n)) ↔ ¬ LongIn f n := by
  rw [valid_vecOf (by decide), itF_len]
  constructor
  · rintro ⟨_, h2⟩ ⟨i, hi, hl⟩
    have h3 := h2 i hi
    rw [itF_getD _ hi] at h3
    rcases h3 with h3 | ⟨h3, _⟩ | ⟨h3, _⟩ | ⟨_, _, _, h3⟩
    · exact absurd (congrArg It.d h3) (by show ¬ (1 : Int) = 0; decide)
    · omega
    · omega
    · have h4 : (f i).size ≤ 60 := h3
      omega
  · intro hn
    refine ⟨h, fun i hi => ?_⟩
    rw [itF_getD _ hi]
    exact .inr (.inr (.inr ⟨rfl, rfl, rfl, Nat.not_lt.1 (fun hl => hn ⟨i, hi, hl⟩)⟩))
/-- What TextVector answers. -/
noncomputable def textV (f : Nat → ByteArray) (n : Nat) : Vec := match bB (n ≤ 40 ∧ ¬ LongIn f n) with
  | true => vecOf 3 (itF (fun i => txE (f i)) n)
  | false => noV
theorem textV_yes {f : Nat → ByteArray} {n : Nat} (h : n ≤ 40) (hl : ¬ LongIn f n) : textV f n = vecOf 3 (itF (fun i => txE (f i)) n) := by unfold textV; rw [bB_yes ⟨h, hl⟩]
theorem textV_big {f : Nat → ByteArray} {n : Nat} (h : ¬ n ≤ 40) : textV f n = noV := by unfold textV; rw [bB_no (fun k => h k.1)]
theorem textV_long {f : Nat → ByteArray} {n : Nat} (hl : LongIn f n) : textV f n = noV := by unfold textV; rw [bB_no (fun k => k.2 hl)]
theorem implTxtItem (s : ByteArray) (w : World) :
    Calls Tryd.prog 98 #[.string s] w fun e w' => e = .returned (.agg #[.int .i64 0, .int .i64 1, .string s]) ∧ Below w.heap.size w w' := by
  go_enter Tryd.func98, Tryd.ntmps98
  go_wp2
  first | exact item_ret0 rfl rfl rfl (blk_new _ _ rfl) ⟨rfl, below1 w _⟩ | exact item_ret rfl rfl rfl (blk_new _ _ rfl) ⟨rfl, below_three (below1 w _) (Nat.le_refl _) _ _ _⟩
theorem specTxtItem (s : ByteArray) (w : World) :
    Calls Tryd.prog 71 #[.string s] w fun e w' => e = .returned (.agg #[.int .i64 0, .int .i64 1, .string s]) ∧ Below w.heap.size w w' := by
  go_enter Tryd.func71, Tryd.ntmps71
  go_wp2
  first | exact item_ret0 rfl rfl rfl (blk_new _ _ rfl) ⟨rfl, below1 w _⟩ | exact item_ret rfl rfl rfl (blk_new _ _ rfl) ⟨rfl, below_three (below1 w _) (Nat.le_refl _) _ _ _⟩
theorem AppL.vat {w wr : World} {kind : Int} {l : List It} {sa : Option Addr} {sn sc : Nat} (h : AppL w wr kind l sa sn sc) : VecAt 0 wr.heap.size wr 1 (vecOf kind l) (.agg #[.int .i64 kind, .slice sa sn sc, .slice none 0 0, .slice none 0 0, .slice none 0 0, .slice none 0 0, .int .i64 0, .int .i64 0]) :=
  (own_vecOf (k := kind) (lo := 0) h.row (Nat.zero_le _)).vat (Nat.le_refl _)
theorem valid_nil3 : ValidV (vecOf 3 []) := (valid_vecOf (by decide)).2 ⟨Nat.zero_le _, fun i hi => (Nat.not_lt_zero i hi).elim⟩
end Go.Proofs.YtjpdnabfpiengaaDoor

/- Functions that return a vector and a text. -/
namespace Go.Proofs.YtjpdnabfpiengaaDoor
open Go.RowKit
set_option maxRecDepth 100000
set_option linter.unusedVariables false

/-- A vector that lies in the result's block as it was made, and a text. -/
theorem vec_ret0S {fn : Func} {R : Ending → World → Prop} {act : Act} {w : World} {g : Nat} {p q : Tmp} {a b c d e f h i s : Value} {t : TypeId} {fr : Nat × Nat}
    (hfn : fn.results = #[.cell p 31, .tmp q]) (hp : act.tmps.getD p undef = .pointer (some ⟨g, 0, none⟩)) (hq : act.tmps.getD q undef = s) (hd : act.defers = []) (hg : w.heap[g]? = some (.cells #[a, b, c, d, e, f, h, i] t fr))
    (hR : R (.returned (.tuple #[.agg #[a, b, c, d, e, f, h, i], s])) w) : bodyPost Tryd.prog fn R .ret act w :=
  bodyPost_ret (by
    have e1 := run_loadVar_row (P := Tryd.prog) w g t 31 #[a, b, c, d, e, f, h, i] fr _ hg Tryd.underlying31 rfl infoVec
    rw [results_cell_tmp hfn, hp, hq]
    show ((loadVar 31 ⟨g, 0, none⟩).run Tryd.prog w).andThen _ = _
    rw [e1]; rfl) hd hR
theorem vec_endS {fn : Func} {R : Ending → World → Prop} {act : Act} {w : World} {g : Nat} {p q : Tmp} {s z0 z1 z2 z3 z4 z5 z6 z7 c0 c1 c2 c3 c4 c5 c6 c7 : Value} {t : TypeId}
    (hfn : fn.results = #[.cell p 31, .tmp q]) (hp : act.tmps.getD p undef = .pointer (some ⟨g, 0, none⟩)) (hq : act.tmps.getD q undef = s) (hd : act.defers = []) (hg : w.heap[g]? = some (.cells #[z0, z1, z2, z3, z4, z5, z6, z7] t (0, 0)))
    (hR : R (.returned (.tuple #[.agg #[c0, c1, c2, c3, c4, c5, c6, c7], s])) (put8 w g 0 c0 c1 c2 c3 c4 c5 c6 c7)) :
    bodyPost Tryd.prog fn R .ret act ((((((((w.setCell ⟨g, 0, none⟩ c0).setCell ⟨g, 1, none⟩ c1).setCell ⟨g, 2, none⟩ c2).setCell ⟨g, 3, none⟩ c3).setCell ⟨g, 4, none⟩ c4).setCell ⟨g, 5, none⟩ c5).setCell ⟨g, 6, none⟩ c6).setCell ⟨g, 7, none⟩ c7) :=
  vec_ret0S hfn hp hq hd (put8_lit hg) hR
theorem ResV.withS {d : Nat} {V : Vec} {w : World} {y : Value} {w' : World} {s : ByteArray} (h : ResV d V w (.returned y) w') : ResVS d V s w (.returned (.tuple #[y, .string s])) w' := by
  obtain ⟨z, e, r⟩ := h
  cases e
  exact ⟨_, rfl, r⟩
/-- "result is too large" -/
def bigB : ByteArray := ⟨#[114, 101, 115, 117, 108, 116, 32, 105, 115, 32, 116, 111, 111, 32, 108, 97, 114, 103, 101]⟩
theorem zeroS (s : ByteArray) (w w' : World) (hb : Below w.heap.size w w') : ResVS 1 noV s w (.returned (.tuple #[.agg #[.int .i64 0, .slice none 0 0, .slice none 0 0, .slice none 0 0, .slice none 0 0, .slice none 0 0, .int .i64 0, .int .i64 0], .string s])) w' := ⟨_, rfl, own_zero _ _ _, hb⟩
section
variable {P : Program} {ops : Array Oper} {Q : Exit → Act → World → Prop} {S : World → Prop}
variable {r : List (Nat × Bool)} {a : Act} {e : List (Nat × Value)} {w : World} {i d : Nat} {g : Option (Nat × Bool)} {v : Value}
theorem run_add {x y : Operand} {t t' : TypeId} {k : IntKind} {p q z : Int} (ho : opAt ops i = some (some d, .binOp .add t x y t', g)) (hd : Nat.blt d a.tmps.size = true)
    (hw : wantE ops a e g = some true) (hx : lookO a e x = .int k p) (hy : lookO a e y = .int k q) (hz : k.wrap (p + q) = z)
    (h : RunE P ops Q S r a ((d, .int k z) :: e) w) : RunE P ops Q S ((i, true) :: r) a e w :=
  run_yield ho hd hw (fun o w' h1 _ => by
    unfold execOp; rw [h1]; simp only [hx, hy]; subst hz
    simp [eqGuard, binOp, Op.intArith, go_sem] <;> rfl) h
end
end Go.Proofs.YtjpdnabfpiengaaDoor

/- A list of texts copied by append: what lies in the new block. -/
namespace Go.Proofs.YtjpdnabfpiengaaDoor
open Go.RowKit
set_option maxRecDepth 100000
set_option linter.unusedVariables false

/-- A row of the call's own that holds the texts of l. -/
theorem own_of_row {w : World} {B : Nat} {v : Value} {l : List ByteArray} (hpos : 0 < l.length) (h : w.ownsRow B 9 1 v l.length (l.map Value.string)) :
    ∃ g c, v = .slice (some ⟨g, 0, none⟩) l.length c ∧ OwnTxs w (some ⟨g, 0, none⟩) l [g] ∧ B ≤ g ∧ g < w.heap.size ∧ l.length ≤ c := by
  obtain ⟨_, h⟩ := h
  rcases h with ⟨_, h0⟩ | ⟨g, cap, cur, rfl, hB, hg, hc, _, hs, ht⟩
  · omega
  · refine ⟨g, cap, rfl, .inr ⟨g, cur, rfl, rfl, hg, by omega, fun i hi => ?_⟩, hB, (Array.getElem?_eq_some_iff.1 hg).1, hc⟩
    have h1 : (cur.toList.take (l.length * 1))[i]? = (l.map Value.string)[i]? := by rw [ht]
    rw [List.getElem?_take_of_lt (by omega)] at h1
    rw [← Array.getElem?_toList, h1]
    unfold txtS
    simp [List.getD_eq_getElem?_getD, hi]
theorem news_cells {w : World} {lo hi b off : Nat} {l : List ByteArray} (h : TextsAt lo hi w (some ⟨b, off, none⟩) l) : ∀ j u, (l.map Value.string)[j]? = some u → w.cell? ((⟨b, off, none⟩ : Addr).add j) = some u := by
  intro j u hj
  rw [List.getElem?_map] at hj
  obtain ⟨s, hs, rfl⟩ := Option.map_eq_some_iff.1 hj
  obtain ⟨b', off', e, _, _, c⟩ := h j s hs
  simp only [Option.some.injEq, Addr.mk.injEq, and_true] at e
  obtain ⟨rfl, rfl⟩ := e
  have ea : (⟨b, off, none⟩ : Addr).add j = ⟨b, off + j, none⟩ := by
    unfold Addr.add; split
    · rename_i h; subst h; rfl
    · rfl
  rw [ea]; exact c
theorem texts_some {w : World} {lo hi : Nat} {a : Option Addr} {l : List ByteArray} (h : TextsAt lo hi w a l) (hpos : 0 < l.length) : ∃ b off, a = some ⟨b, off, none⟩ := by
  obtain ⟨b, off, e, _⟩ := h 0 _ (List.getElem?_eq_getElem hpos)
  exact ⟨b, off, e⟩
set_option maxHeartbeats 1000000 in
theorem implCopyStrs (l : List ByteArray) (a : Option Addr) (c lo hi : Nat) (w : World) (h : TextsAt lo hi w a l) (hhi : hi ≤ w.heap.size) (hn : l.length ≤ 1048576) (hpos : 0 < l.length) :
    Calls Tryd.prog 35 #[.slice a l.length c] w fun e w' => ∃ g c', e = .returned (.slice (some ⟨g, 0, none⟩) l.length c') ∧ OwnTxs w' (some ⟨g, 0, none⟩) l [g] ∧ w.heap.size ≤ g ∧ g < w'.heap.size ∧ l.length ≤ c' ∧ Below w.heap.size w w' := by
  obtain ⟨b, off, rfl⟩ := texts_some h hpos
  have NC := Lib.hid (news_cells h)
  have HO := Lib.hid (fun (W : World) (v : Value) (hr : W.ownsRow w.heap.size 9 1 v l.length (l.map Value.string)) => own_of_row hpos hr)
  have HLn := Lib.hid (show (l.map Value.string).length = l.length * 1 by simp)
  have H1 := Lib.hid (show ∀ u ∈ l.map Value.string, u.oneCell' = true from fun u hu => by obtain ⟨s, _, rfl⟩ := List.mem_map.1 hu; rfl)
  have ON := Lib.hid (show w.ownsRow w.heap.size 9 1 (.slice none 0 0) 0 [] from ⟨rfl, .inl ⟨rfl, rfl⟩⟩)
  obtain ⟨i0, hi0, hz0, hz1, hz2⟩ := info_parts infoStr
  clear h
  obtain ⟨n, hn'⟩ : ∃ n, l.length = n := ⟨_, rfl⟩
  obtain ⟨news, hnews⟩ : ∃ x, l.map Value.string = x := ⟨_, rfl⟩
  rw [hn'] at HO HLn hn hpos ⊢
  rw [hnews] at NC HO HLn H1
  clear hn' hnews
  go_enter Tryd.func35, Tryd.ntmps35
  go_wp2_with (at_builtin; refine wpList_append_own _ rfl _ _ 24 rfl w.heap.size 9 i0 (.string ⟨#[]⟩) 1 16 Tryd.underlying24 hi0 hz0 hz1 hz2 rfl (by decide) (.slice none 0 0) 0 [] rfl ON.out ⟨b, off, none⟩ n c news rfl HLn.out NC.out H1.out ?c1 ?c2 ?c3 ?_)
  case c1 => unfold maxLen; omega
  case c2 => omega
  case c3 => exact Nat.le_refl _
  intro v' w2 hown' hgrow _
  obtain ⟨g, c', rfl, ho, hB, hlt, hc⟩ := HO.out _ _ hown'
  have OO := Lib.hid ho
  have BB := Lib.hid ((Below.refl w.heap.size w).grown hgrow (Nat.le_refl _) (by intro r hr; cases hr))
  clear hown' hgrow ho
  go_wp2
  go_ret
  exact ⟨g, c', rfl, OO.out, hB, hlt, hc, BB.out⟩
end Go.Proofs.YtjpdnabfpiengaaDoor

/- What a law needs of a result that is a vector of items alone, or the zero value. -/
namespace Go.Proofs.YtjpdnabfpiengaaDoor
open Go.RowKit
set_option maxRecDepth 100000
set_option linter.unusedVariables false

/-- The zero value, or a vector of items alone that fit. -/
def PlainV (V : Vec) : Prop := V = noV ∨ ∃ k l, V = vecOf k l ∧ (-9223372036854775808 ≤ k ∧ k ≤ 9223372036854775807) ∧ l.length ≤ 40 ∧ ∀ x ∈ l, InB x ∧ x.t.size ≤ 1048576
theorem PlainV.small {V : Vec} (h : PlainV V) : Small 1 V := by
  rcases h with rfl | ⟨k, l, rfl, hk, hl, hx⟩
  · exact small_noV
  · exact small_vecOf (by omega) (fun x h => (hx x h).2)
theorem PlainV.fits {V : Vec} (h : PlainV V) : Fits 1 V := by
  rcases h with rfl | ⟨k, l, rfl, hk, hl, hx⟩
  · exact fits_noV
  · exact fits_vecOf hk (by omega) (fun x h => (hx x h).1)
theorem PlainV.cnt {V : Vec} (h : PlainV V) : 1 + cntM 1 V ≤ 8000000 := by
  rcases h with rfl | ⟨k, l, rfl, hk, hl, hx⟩
  · rw [cnt_noV]; omega
  · rw [cnt_vecOf]; omega
theorem plain_itF {k : Int} {g : Nat → It} {n : Nat} (hk : -9223372036854775808 ≤ k ∧ k ≤ 9223372036854775807) (hn : n ≤ 40) (h : ∀ i, i < n → InB (g i) ∧ (g i).t.size ≤ 1048576) : PlainV (vecOf k (itF g n)) :=
  .inr ⟨k, _, rfl, hk, by rw [itF_len]; exact hn, fun x hx => by obtain ⟨i, hi, rfl⟩ := mem_itF hx; exact h i hi⟩
end Go.Proofs.YtjpdnabfpiengaaDoor

/- Vectors with names that a call builds; texts copied by append, whatever their number. -/
namespace Go.Proofs.YtjpdnabfpiengaaDoor
open Go.RowKit
set_option maxRecDepth 100000
set_option linter.unusedVariables false

/-- A vector of items and names. -/
def mkN (k : Int) (l : List It) (names : List ByteArray) : Vec := .mk k l [] names [] [] 0 0
/-- An append of nothing onto nothing. -/
theorem run_app0 {w : World} {dst : Value} {ty : TypeId} (hd : dst = .slice none 0 0 ∨ ∃ g, dst = .slice (some ⟨g, 0, none⟩) 0 0) (ad : Option Addr) (c : Nat) :
    (Builtin.append_ #[24, 24] ty #[dst, .slice ad 0 c]).run Tryd.prog w = .ok dst w := by
  obtain ⟨i0, hi0, hz0, hz1, hz2⟩ := info_parts infoStr
  rcases ad with _ | ad <;> rcases hd with rfl | ⟨g, rfl⟩ <;> simp [Builtin.append_, run_underlying Tryd.underlying24, sizeOf, typeInfo, hi0, Builtin.lenOf, Builtin.firstCells, loadCells, loadCellsFrom, storeCells]
theorem wpList_app0 {w : World} {ops : Array Oper} {rest : List Oper} {o : Oper} {a : Act} {Q : Exit → Act → World → Prop} (hgd : o.guard = none) (s x : Operand)
    (ho : o.op = .call { callee := .builtin .append, args := #[s, x], argTypes := #[24, 24] }) (dst : Value) (hs : a.eval s = dst) (hd : dst = .slice none 0 0 ∨ ∃ g, dst = .slice (some ⟨g, 0, none⟩) 0 0) (ad : Option Addr) (c : Nat) (hx : a.eval x = .slice ad 0 c)
    (h : wpList Tryd.prog ops Q rest (a.put o.dst dst) w) : wpList Tryd.prog ops Q (o :: rest) a w := by
  refine wpList_plain hgd fun K hK => ?_
  unfold Oper.wp
  simp [execOp, ho, resolve, invoke, builtin, hs, hx, run_app0 hd ad c, Result.andThen]
  exact hK _ _ h
/-- What a copy of texts is. -/
def CopyTx (base : Nat) (l : List ByteArray) (v : Value) (w : World) : Prop := ∃ sa sc F, v = .slice sa l.length sc ∧ OwnTxs w sa l F ∧ F.Nodup ∧ (∀ b ∈ F, base ≤ b ∧ b < w.heap.size) ∧ l.length ≤ sc
theorem wpList_copyTexts {w : World} {ops : Array Oper} {rest : List Oper} {o : Oper} {a : Act} {Q : Exit → Act → World → Prop} (hgd : o.guard = none) (s x : Operand)
    (ho : o.op = .call { callee := .builtin .append, args := #[s, x], argTypes := #[24, 24] }) (base : Nat) (v0 : Value) (hs : a.eval s = v0)
    (hv0 : v0 = .slice none 0 0 ∨ ∃ g, base ≤ g ∧ v0 = .slice (some ⟨g, 0, none⟩) 0 0 ∧ w.heap[g]? = some (.cells #[] 9 (0, 0)))
    (ad : Option Addr) (c : Nat) (l : List ByteArray) (lo hi : Nat) (hx : a.eval x = .slice ad l.length c) (hT : TextsAt lo hi w ad l) (hn : l.length ≤ 1048576) (hbase : base ≤ w.heap.size)
    (h : ∀ v' w', CopyTx base l v' w' → Below base w w' → wpList Tryd.prog ops Q rest (a.put o.dst v') w') : wpList Tryd.prog ops Q (o :: rest) a w := by
  by_cases hpos : 0 < l.length
  · obtain ⟨b, off, rfl⟩ := texts_some hT hpos
    obtain ⟨i0, hi0, hz0, hz1, hz2⟩ := info_parts infoStr
    have hown : w.ownsRow base 9 1 v0 0 [] := by
      rcases hv0 with rfl | ⟨g, hg, rfl, hb⟩
      · exact ⟨rfl, .inl ⟨rfl, rfl⟩⟩
      · exact ⟨rfl, .inr ⟨g, 0, #[], rfl, hg, hb, Nat.le_refl _, Nat.zero_le _, rfl, rfl⟩⟩
    refine wpList_append_own w hgd s x 24 ho base 9 i0 (.string ⟨#[]⟩) 1 16 Tryd.underlying24 hi0 hz0 hz1 hz2 rfl (by decide) v0 0 [] hs hown ⟨b, off, none⟩ l.length c (l.map Value.string) hx (by simp) (news_cells hT) (fun u hu => by obtain ⟨s, _, rfl⟩ := List.mem_map.1 hu; rfl) (by unfold maxLen; omega) (by omega) hbase (fun v' w' h1 h2 _ => ?_)
    have h1' : w'.ownsRow base 9 1 v' l.length (l.map Value.string) := by simpa using h1
    obtain ⟨g, c', rfl, ho, hB, hlt, hc⟩ := own_of_row hpos h1'
    refine h _ _ ⟨_, _, [g], rfl, ho, by simp, fun b hb => by obtain rfl := List.mem_singleton.1 hb; exact ⟨hB, hlt⟩, hc⟩ ((Below.refl base w).grown h2 hbase (fun r hr => ?_))
    exact (hown.lt r hr).1
  · obtain rfl : l = [] := List.eq_nil_of_length_eq_zero (by omega)
    refine wpList_app0 hgd s x ho v0 hs (hv0.imp id (fun ⟨g, _, e, _⟩ => ⟨g, e⟩)) ad c hx (h _ _ ?_ (Below.refl _ _))
    rcases hv0 with rfl | ⟨g, _, rfl, _⟩
    · exact ⟨none, 0, [], rfl, .inl ⟨rfl, rfl⟩, List.nodup_nil, (fun _ h => by cases h), Nat.le_refl _⟩
    · exact ⟨some ⟨g, 0, none⟩, 0, [], rfl, .inl ⟨rfl, rfl⟩, List.nodup_nil, (fun _ h => by cases h), Nat.le_refl _⟩
set_option maxHeartbeats 1000000 in
theorem implCopyAny (l : List ByteArray) (a : Option Addr) (c lo hi : Nat) (w : World) (h : TextsAt lo hi w a l) (hn : l.length ≤ 1048576) :
    Calls Tryd.prog 35 #[.slice a l.length c] w fun e w' => ∃ v, e = .returned v ∧ CopyTx w.heap.size l v w' ∧ Below w.heap.size w w' := by
  have HT := Lib.hid h
  clear h
  go_enter Tryd.func35, Tryd.ntmps35
  go_wp2_with (at_builtin; refine wpList_copyTexts rfl _ _ rfl w.heap.size _ rfl (.inl rfl) a c l lo hi rfl HT.out hn (Nat.le_refl _) ?_)
  intro v' w' hc hb
  have HC := Lib.hid hc
  have HB := Lib.hid hb
  obtain ⟨sa, sc, F, rfl, _⟩ := hc
  clear hb
  go_wp2
  go_ret
  exact ⟨_, rfl, HC.out, HB.out⟩
/-- What a loop that appends items to a vector with names keeps. -/
structure AppN (w wr : World) (r b : Nat) (kind : Int) (l : List It) (sa : Option Addr) (sn sc : Nat) (names : List ByteArray) (na : Option Addr) (nc : Nat) (F : List Nat) : Prop where
  res : wr.heap[r]? = some (.cells #[.int .i64 0, .slice none 0 0, .slice none 0 0, .slice none 0 0, .slice none 0 0, .slice none 0 0, .int .i64 0, .int .i64 0] 31 (0, 0))
  vec : wr.heap[b]? = some (.cells #[.int .i64 kind, .slice sa sn sc, .slice none 0 0, .slice na names.length nc, .slice none 0 0, .slice none 0 0, .int .i64 0, .int .i64 0] 31 (0, 0))
  row : wr.ownsRow (b + 1) 56 3 (.slice sa sn sc) l.length (itCells l)
  nms : OwnTxs wr na names F
  cap : names.length ≤ nc
  nd : F.Nodup
  rng : ∀ g ∈ F, w.heap.size ≤ g ∧ g < b ∧ g ≠ r
  below : Below w.heap.size w wr
  o1 : w.heap.size ≤ r
  o2 : r < b
theorem AppN.big {w wr : World} {r b : Nat} {kind : Int} {l : List It} {sa : Option Addr} {sn sc : Nat} {names : List ByteArray} {na : Option Addr} {nc : Nat} {F : List Nat} (h : AppN w wr r b kind l sa sn sc names na nc F) : b < wr.heap.size := (Array.getElem?_eq_some_iff.1 h.vec).1
theorem AppN.keep {w wr w1 : World} {r b : Nat} {kind : Int} {l : List It} {sa : Option Addr} {sn sc : Nat} {names : List ByteArray} {na : Option Addr} {nc : Nat} {F : List Nat} (h : AppN w wr r b kind l sa sn sc names na nc F) (hb : Below wr.heap.size wr w1) : AppN w w1 r b kind l sa sn sc names na nc F :=
  ⟨blk_below hb h.res, blk_below hb h.vec, ownsRow_below h.row hb, h.nms.kept (fun g hg => hb.block g (by have := h.rng g hg; have := h.big; omega)), h.cap, h.nd, h.rng, below_then h.below hb, h.o1, h.o2⟩
theorem AppN.heldC {w wr : World} {r b : Nat} {kind : Int} {l : List It} {sa : Option Addr} {sn sc : Nat} {names : List ByteArray} {na : Option Addr} {nc : Nat} {F : List Nat} (h : AppN w wr r b kind l sa sn sc names na nc F) : HeldC w wr [(r, 31, #[.int .i64 0, .slice none 0 0, .slice none 0 0, .slice none 0 0, .slice none 0 0, .slice none 0 0, .int .i64 0, .int .i64 0]), (b, 31, #[.int .i64 kind, .slice sa sn sc, .slice none 0 0, .slice na names.length nc, .slice none 0 0, .slice none 0 0, .int .i64 0, .int .i64 0])] := heldC_two h.below h.res h.vec
theorem AppN.far {w wr : World} {r b : Nat} {kind : Int} {l : List It} {sa : Option Addr} {sn sc : Nat} {names : List ByteArray} {na : Option Addr} {nc : Nat} {F : List Nat} (h : AppN w wr r b kind l sa sn sc names na nc F) {C : Array Value} {q : Nat × TypeId × Array Value} (hq : q ∈ (wr.heap.size, 56, C) :: [(r, 31, #[.int .i64 0, .slice none 0 0, .slice none 0 0, .slice none 0 0, .slice none 0 0, .slice none 0 0, .int .i64 0, .int .i64 0]), (b, 31, #[.int .i64 kind, .slice sa sn sc, .slice none 0 0, .slice na names.length nc, .slice none 0 0, .slice none 0 0, .int .i64 0, .int .i64 0])]) : ∀ k, (Value.slice sa sn sc).ownBlock = some k → q.1 ≠ k := by
  intro k hk e
  have h1 := h.row.lt k hk
  have h2 := h.o2
  rcases List.mem_cons.1 hq with rfl | hq
  · simp only at e; omega
  rcases List.mem_cons.1 hq with rfl | hq
  · simp only at e; omega
  · obtain rfl := List.mem_singleton.1 hq
    simp only at e; omega
theorem AppN.next {w wr W : World} {r b : Nat} {kind : Int} {l : List It} {z : It} {sa sa' : Option Addr} {sn sc sn' sc' : Nat} {names : List ByteArray} {na : Option Addr} {nc : Nat} {F : List Nat} (h : AppN w wr r b kind l sa sn sc names na nc F)
    (hK : W.heap[b]? = some (.cells (#[.int .i64 kind, .slice sa sn sc, .slice none 0 0, .slice na names.length nc, .slice none 0 0, .slice none 0 0, .int .i64 0, .int .i64 0].setIfInBounds 1 (.slice sa' sn' sc')) 31 (0, 0)))
    (hO : W.ownsRow (b + 1) 56 3 (.slice sa' sn' sc') (l ++ [z]).length (itCells (l ++ [z]))) (hB : Below w.heap.size w W)
    (hR : W.heap[r]? = some (.cells #[.int .i64 0, .slice none 0 0, .slice none 0 0, .slice none 0 0, .slice none 0 0, .slice none 0 0, .int .i64 0, .int .i64 0] 31 (0, 0))) (hF : ∀ g ∈ F, W.heap[g]? = wr.heap[g]?) : AppN w W r b kind (l ++ [z]) sa' sn' sc' names na nc F :=
  ⟨hR, hK, hO, h.nms.kept hF, h.cap, h.nd, h.rng, hB, h.o1, h.o2⟩
/-- The vector itself, where the function ends. -/
theorem AppN.own {w wr : World} {r b : Nat} {kind : Int} {l : List It} {sa : Option Addr} {sn sc : Nat} {names : List ByteArray} {na : Option Addr} {nc : Nat} {F : List Nat} (h : AppN w wr r b kind l sa sn sc names na nc F) : ∃ G, OwnVec wr 1 (mkN kind l names) (.agg #[.int .i64 kind, .slice sa sn sc, .slice none 0 0, .slice na names.length nc, .slice none 0 0, .slice none 0 0, .int .i64 0, .int .i64 0]) G ∧ G.Nodup ∧ ∀ g ∈ G, w.heap.size ≤ g ∧ g < wr.heap.size ∧ g ≠ r := by
  obtain ⟨a, c, Fi, e, ho, hn, hr, hc⟩ := own_of_its h.row
  obtain ⟨rfl, rfl, rfl⟩ : sa = a ∧ sn = l.length ∧ sc = c := by simpa using e
  refine ⟨Fi ++ F, ?_, ?_, ?_⟩
  · show OwnVec wr 1 (.mk kind l [] names [] [] 0 0) _ _
    unfold OwnVec
    exact ⟨sa, sc, none, 0, na, nc, none, 0, none, 0, Fi, [], F, [], [], rfl, by simp, ⟨hc, Nat.le_refl _, h.cap, Nat.le_refl _, Nat.le_refl _⟩, ho, h.nms, .inl ⟨rfl, rfl⟩, .inl ⟨rfl, rfl⟩, .inl ⟨rfl, rfl⟩⟩
  · rw [List.nodup_append]
    exact ⟨hn, h.nd, fun x hx y hy e => by have := hr x hx; have := h.rng y hy; omega⟩
  · intro g hg
    have h1 := h.o1; have h2 := h.o2; have h3 := h.big
    rcases List.mem_append.1 hg with hg | hg
    · have := hr g hg; omega
    · have := h.rng g hg; omega
theorem AppN.fin {w wr : World} {r b : Nat} {kind : Int} {l : List It} {sa : Option Addr} {sn sc : Nat} {names : List ByteArray} {na : Option Addr} {nc : Nat} {F : List Nat} (h : AppN w wr r b kind l sa sn sc names na nc F) : ResV 1 (mkN kind l names) w (.returned (.agg #[.int .i64 kind, .slice sa sn sc, .slice none 0 0, .slice na names.length nc, .slice none 0 0, .slice none 0 0, .int .i64 0, .int .i64 0])) (put8 wr r 0 (.int .i64 kind) (.slice sa sn sc) (.slice none 0 0) (.slice na names.length nc) (.slice none 0 0) (.slice none 0 0) (.int .i64 0) (.int .i64 0)) := by
  obtain ⟨G, ho, hn, hr⟩ := h.own
  exact ⟨_, rfl, ⟨G, ho.kept _ _ _ _ (fun g hg => put8_other (hr g hg).2.2), hn, fun g hg => by rw [put8_size]; have := hr g hg; omega⟩, put8_below h.below h.o1⟩
theorem small_mkN {k : Int} {l : List It} {names : List ByteArray} (h : l.length ≤ 1048576) (ht : ∀ x ∈ l, x.t.size ≤ 1048576) (hn : names.length ≤ 1048576) (hs : ∀ s ∈ names, s.size ≤ 1048576) : Small 1 (mkN k l names) := by
  show Small 1 (.mk k l [] names [] [] 0 0)
  unfold Small
  exact ⟨h, Nat.zero_le _, hn, Nat.zero_le _, Nat.zero_le _, ht, hs, (fun _ h => by cases h), (fun _ h => by cases h), (fun _ h => by cases h)⟩
theorem fits_mkN {k : Int} {l : List It} {names : List ByteArray} (hk : -9223372036854775808 ≤ k ∧ k ≤ 9223372036854775807) (h : l.length ≤ 1048576) (ht : ∀ x ∈ l, InB x) (hn : names.length ≤ 1048576) (hs : ∀ s ∈ names, s.size ≤ 1048576) : Fits 1 (mkN k l names) := by
  show Fits 1 (.mk k l [] names [] [] 0 0)
  unfold Fits
  refine ⟨hk, ⟨by decide, by decide⟩, ⟨by decide, by decide⟩, by unfold maxLen; omega, Nat.zero_le _, by unfold maxLen; omega, Nat.zero_le _, Nat.zero_le _, fun x hx => ht x hx, fun s hx => by have := hs s hx; unfold maxLen; omega, (fun _ h => by cases h), (fun _ h => by cases h), (fun _ h => by cases h)⟩
theorem cnt_mkN (k : Int) (l : List It) (names : List ByteArray) : cntM 1 (mkN k l names) = 3 * l.length + names.length := by
  show cntM 1 (.mk k l [] names [] [] 0 0) = _
  rw [cntM_eq]
  show 3 * l.length + sumN _ 0 + names.length + 0 + 0 = _
  simp [sumN]
end Go.Proofs.YtjpdnabfpiengaaDoor

/- The end of an appending region, with all that it leaves alone. -/
namespace Go.Proofs.YtjpdnabfpiengaaDoor
open Go.RowKit
set_option maxRecDepth 100000
set_option linter.unusedVariables false

/-- The same, and every other block is as it was. -/
theorem tail_item2 {ops : Array Oper} {Q : Exit → Act → World → Prop} {a : Act} {e : List (Nat × Value)} {w0 w1 : World} {L : List (Nat × TypeId × Array Value)} {i1 i2 i3 i4 d1 d2 d4 b j base : Nat} {x s p : Operand} {v0 c : Value} {C : Array Value} {tt : TypeId} (z : It) {l : List It}
    (ho1 : opAt ops i1 = some (some d1, .buildSlice 28 1 #[(0, x)], none)) (hd1 : Nat.blt d1 a.tmps.size = true) (hx : lookO a e x = .agg #[.int .i64 z.n, .int .i64 z.d, .string z.t])
    (ho2 : opAt ops i2 = some (some d2, .call { callee := .builtin .append, args := [s, .tmp d1].toArray, argTypes := [28, 28].toArray }, none)) (hd2 : Nat.blt d2 a.tmps.size = true) (hs : ∀ u, lookO a ((d1, u) :: e) s = v0)
    (ho4 : opAt ops i4 = some (some d4, .fieldAddr 31 p j, none)) (hd4 : Nat.blt d4 a.tmps.size = true) (hf : Nat.blt j 8 = true) (hp : ∀ u u', lookO a ((d2, u') :: (d1, u) :: e) p = .pointer (some ⟨b, 0, none⟩))
    (ho3 : opAt ops i3 = some (none, .store 28 (.tmp d4) (.tmp d2), none)) (hl : lastK ops i3 = true) (hne : Nat.beq d4 d2 = false)
    (H : HeldC w0 w1 L) (hown : w1.ownsRow base 56 3 v0 l.length (itCells l)) (hn : l.length ≤ 1048576) (hbase : base ≤ w1.heap.size) (hw0 : w0.heap.size ≤ base) (m : (b, tt, C) ∈ L) (hj : C[j]? = some c) (hb : b < base) (hb0 : w0.heap.size ≤ b)
    (hL : ∀ q ∈ L, ∀ k, v0.ownBlock = some k → q.1 ≠ k)
    (h : ∀ v' W, (∃ sa n c, v' = .slice sa n c) → W.heap[b]? = some (.cells (C.setIfInBounds j v') tt (0, 0)) → W.ownsRow base 56 3 v' (l ++ [z]).length (itCells (l ++ [z])) → Below w0.heap.size w0 W → w1.heap.size ≤ W.heap.size →
      (∀ q ∈ L, q.1 ≠ b → W.heap[q.1]? = some (.cells q.2.2 q.2.1 (0, 0))) → (∀ g, g < w1.heap.size → g ≠ b → (∀ k, v0.ownBlock = some k → g ≠ k) → W.heap[g]? = w1.heap[g]?) → Q .normal (putAll a ((d4, .pointer (some ⟨b, j, none⟩)) :: (d2, v') :: (d1, .slice (some ⟨w1.heap.size, 0, none⟩) 1 1) :: e)) W) :
    RunE Tryd.prog ops Q (fun w' => HeldC w0 w' L) [(i1, false), (i2, false), (i4, true), (i3, false)] a e w1 := by
  refine run_build_item z ho1 hd1 rfl hx (fun W1 hW1 => ?_)
  have H1 : HeldC w0 W1 L := hW1 ▸ heldC_alloc H _
  have hK : W1.heap[w1.heap.size]? = some (.cells #[.int .i64 z.n, .int .i64 z.d, .string z.t] 56 (0, 0)) := hW1 ▸ blk_new w1 _ rfl
  have hO : W1.ownsRow base 56 3 v0 l.length (itCells l) := hW1 ▸ ownsRow_below hown (below1 w1 _)
  have hS1 : w1.heap.size ≤ W1.heap.size := hW1 ▸ (below1 w1 _).size
  refine ⟨H1, run_app_item (b := w1.heap.size) z ho2 hd2 rfl (hs _) (look_new _ _) hO hK hn (by omega) (fun v' W2 hO2 hg2 => ?_)⟩
  have H2 : HeldC w0 W2 L := heldC_grown H1 hg2 (fun k hk => ⟨by have := (hO.lt k hk).1; omega, fun q hq => hL q hq k hk⟩)
  have hv : ∃ sa n c, v' = .slice sa n c := by
    obtain ⟨_, h | ⟨g, cap, cur, e, _⟩⟩ := hO2
    · exact ⟨_, _, _, h.1⟩
    · exact ⟨_, _, _, e⟩
  obtain ⟨sa, n, c', rfl⟩ := hv
  refine ⟨H2, runC_partV hf ho4 hd4 rfl (hp _ _) (run_last_field hl ho3 rfl store_its (look_new _ _) (look_next hne) (heldC_at H2 m) hj (fun W3 hW3 => run_done (h _ W3 ⟨_, _, _, rfl⟩ ?_ ?_ ?_ ?_ ?_ ?_)))⟩
  · subst hW3; exact Joins.block_setCell (heldC_at H2 m) _
  · subst hW3; exact ownsRow_set hO2 hb
  · subst hW3; exact H2.1.setCell (p := ⟨b, j, none⟩) hb0 _
  · subst hW3; have := hg2.size; simp; omega
  · intro q hq hne; subst hW3; rw [Below.heap_setCell _ _ _ _ hne]; exact H2.2 q hq
  · intro g hg hne hk; subst hW3; rw [Below.heap_setCell _ _ _ _ hne, hg2.block g (by omega) (fun e => hk g e.symm rfl), hW1]; exact (below1 w1 _).block g hg
end Go.Proofs.YtjpdnabfpiengaaDoor

/- Logical values of vectors. -/
namespace Go.Proofs.YtjpdnabfpiengaaDoor
open Go.RowKit
set_option maxRecDepth 100000
set_option linter.unusedVariables false

/-- "invalid vector", "non-logical argument" -/
def badB : ByteArray := ⟨#[105, 110, 118, 97, 108, 105, 100, 32, 118, 101, 99, 116, 111, 114]⟩
def nonLogB : ByteArray := ⟨#[110, 111, 110, 45, 108, 111, 103, 105, 99, 97, 108, 32, 97, 114, 103, 117, 109, 101, 110, 116]⟩
/-- Does a vector count as numbers? -/
def Counts (v : Vec) : Prop := match v with | .mk k _ _ _ _ levels _ _ => k ≤ 2 ∧ levels.length = 0
def truthI (x : It) : Int := if x.d = 0 then 2 else if x.n = 0 then 0 else 1
theorem truth_three (x : It) : L3 (truthI x) := by unfold truthI L3; split <;> (try split) <;> omega
/-- An element of a vector that counts as numbers. -/
structure NumIt (x : It) : Prop where
  t : x.t = ⟨#[]⟩
  n0 : -999999999 ≤ x.n
  n1 : x.n ≤ 999999999
  d0 : 0 ≤ x.d
  d1 : x.d ≤ 999999999
  z : x.d = 0 → x = noI
theorem numIt_of {k : Int} {x : It} (h : ItOk k x) (hk : k ≤ 2) : NumIt x := by
  rcases h with rfl | ⟨_, h1, h2, h3, h4⟩ | ⟨_, h1⟩ | ⟨h1, _⟩
  · exact ⟨rfl, by decide, by decide, by decide, by decide, fun _ => rfl⟩
  · exact ⟨empty_of_size h4, by omega, by omega, by omega, by omega, fun h => by omega⟩
  · obtain ⟨g1, g2, g3, g4, g5, _⟩ := isN_iff.1 h1
    exact ⟨g1, g4, g5, by omega, g3, fun h => by omega⟩
  · omega
theorem num_at {k : Int} {items : List It} {parts : List Vec} {names cls levels : List ByteArray} {code env : Int} (h : ValidV (.mk k items parts names cls levels code env)) (hc : Counts (.mk k items parts names cls levels code env)) {i : Nat} (hi : i < items.length) : NumIt (items.getD i noI) := by
  have hf : FlatOk k items parts.length names cls levels code env := h.1.flat
  exact numIt_of (hf.h_items i hi).1 hc.1
theorem count_len {k : Int} {items : List It} {parts : List Vec} {names cls levels : List ByteArray} {code env : Int} (h : ValidV (.mk k items parts names cls levels code env)) (hc : Counts (.mk k items parts names cls levels code env)) : items.length ≤ 40 := by
  have hf : FlatOk k items parts.length names cls levels code env := h.1.flat
  have h1 := hf.h_len
  have h2 : k ≤ 2 := hc.1
  unfold lenV at h1
  rw [if_neg (by omega)] at h1
  omega
theorem implCountsY (k : Int) (ai ap an ac al : Option Addr) (ni ci np cp nn cn nc cc nl cl : Nat) (code env : Int) (w : World) (h : k ≤ 2) (hl : nl = 0) :
    Calls Tryd.prog 65 #[.agg #[.int .i64 k, .slice ai ni ci, .slice ap np cp, .slice an nn cn, .slice ac nc cc, .slice al nl cl, .int .i64 code, .int .i64 env]] w fun e w' => e = .returned (.bool true) ∧ Below w.heap.size w w' := by
  subst hl
  go_enter Tryd.func65, Tryd.ntmps65
  go_wp2
  go_ret
  exact ⟨rfl, below1 _ _⟩
theorem implCountsN (k : Int) (ai ap an ac al : Option Addr) (ni ci np cp nn cn nc cc nl cl : Nat) (code env : Int) (w : World) (h : ¬ (k ≤ 2 ∧ nl = 0)) :
    Calls Tryd.prog 65 #[.agg #[.int .i64 k, .slice ai ni ci, .slice ap np cp, .slice an nn cn, .slice ac nc cc, .slice al nl cl, .int .i64 code, .int .i64 env]] w fun e w' => e = .returned (.bool false) ∧ Below w.heap.size w w' := by
  by_cases h2 : k ≤ 2
  · have hl : 0 < nl := by omega
    have hl' : ¬ ((nl : Int) = 0) := by omega
    have hb : ((nl : Int) == 0) = false := beq_eq_false_iff_ne.2 hl'
    clear h
    go_enter Tryd.func65, Tryd.ntmps65
    go_wp2
    go_ret
    exact ⟨rfl, below1 _ _⟩
  · have h3 : 2 < k := by omega
    clear h h2
    go_enter Tryd.func65, Tryd.ntmps65
    go_wp2
    go_ret
    exact ⟨rfl, below1 _ _⟩
theorem implTruth (x : It) (w : World) (h : NumIt x) :
    Calls Tryd.prog 69 #[.agg #[.int .i64 x.n, .int .i64 x.d, .string x.t]] w fun e w' => e = .returned (.int .i64 (truthI x)) ∧ Below w.heap.size w w' := by
  obtain ⟨n, d, t⟩ := x
  obtain rfl : t = ⟨#[]⟩ := h.t
  by_cases hd : d = 0
  · obtain ⟨rfl, rfl⟩ : n = 0 ∧ d = 0 := by have := h.z hd; exact ⟨congrArg It.n this, hd⟩
    clear h hd
    go_enter Tryd.func69, Tryd.ntmps69
    go_wp2
    go_ret
    exact ⟨rfl, below1 _ _⟩
  · have X := Lib.hid (show truthI ⟨n, d, ⟨#[]⟩⟩ = if n = 0 then 0 else 1 by unfold truthI; rw [if_neg hd])
    have hb : (d == 0) = false := by simp [hd]
    clear h
    by_cases hn : n = 0
    · subst hn
      have Y := Lib.hid (show truthI ⟨0, d, ⟨#[]⟩⟩ = 0 by rw [X.out]; rfl)
      go_enter Tryd.func69, Tryd.ntmps69
      go_wp2
      go_ret
      exact ⟨ret_i64S Y.out.symm, below1 _ _⟩
    · have Y := Lib.hid (show truthI ⟨n, d, ⟨#[]⟩⟩ = 1 by rw [X.out, if_neg hn])
      have hb2 : (n == 0) = false := by simp [hn]
      go_enter Tryd.func69, Tryd.ntmps69
      go_wp2
      go_ret
      exact ⟨ret_i64S Y.out.symm, below1 _ _⟩
end Go.Proofs.YtjpdnabfpiengaaDoor

/- How the reference makes a number. -/
namespace Go.Proofs.YtjpdnabfpiengaaDoor
set_option maxRecDepth 100000
open Go.RowKit
set_option linter.unusedVariables false

end Go.Proofs.YtjpdnabfpiengaaDoor

/- How the program makes a number. -/
namespace Go.Proofs.YtjpdnabfpiengaaDoor
set_option maxRecDepth 100000
open Go.RowKit
set_option linter.unusedVariables false

set_option maxHeartbeats 1000000 in
theorem implMake (n d : Int) (w : World) (h : -9223372036854775808 ≤ n ∧ n ≤ 9223372036854775807) (h' : -9223372036854775808 ≤ d ∧ d ≤ 9223372036854775807) :
    Calls Tryd.prog 75 #[.int .i64 n, .int .i64 d] w fun e w' => e = .returned (.agg #[.int .i64 (mkI n d).n, .int .i64 (mkI n d).d, .string ⟨#[]⟩]) ∧ Below w.heap.size w w' := by
  by_cases hd : d = 0
  · subst hd
    have X := Lib.hid (mkI_no (n := n) (d := 0) (by unfold okR; simp))
    go_enter Tryd.func75, Tryd.ntmps75
    go_wp2
    rw [X.out]
    exact bodyPost_ret (v := .agg #[.int .i64 0, .int .i64 0, .string ⟨#[]⟩]) (by simp [results, Tryd.results75, go_sem]) rfl ⟨rfl, (Below.refl _ _).alloc (Nat.le_refl _) _⟩
  · by_cases hn : n < -4000000000000000000 ∨ 4000000000000000000 < n
    · have X := Lib.hid (mkI_no (n := n) (d := d) (by unfold okR; omega))
      have H := Lib.hid hn
      have D := Lib.hid hd
      have d0 : (d == 0) = false := by simp [hd]
      clear hn hd
      go_enter Tryd.func75, Tryd.ntmps75
      go_wp2_with fail
      refine (isOpNo n _ H.out).mono ?_
      rintro e w' ⟨rfl, rfl⟩
      go_wp2
      rw [X.out]
      exact bodyPost_ret (v := .agg #[.int .i64 0, .int .i64 0, .string ⟨#[]⟩]) (by simp [results, Tryd.results75, go_sem]) rfl ⟨rfl, (Below.refl _ _).alloc (Nat.le_refl _) _⟩
    · by_cases hd2 : d < -4000000000000000000 ∨ 4000000000000000000 < d
      · have X := Lib.hid (mkI_no (n := n) (d := d) (by unfold okR; omega))
        have H := Lib.hid hd2
        have N := Lib.hid hn
        have d0 : (d == 0) = false := by simp [hd]
        clear hn hd hd2
        go_enter Tryd.func75, Tryd.ntmps75
        go_wp2_with fail
        refine (isOpYes n _ (by have := N.out; omega) (by have := N.out; omega)).mono ?_
        rintro e w' ⟨rfl, rfl⟩
        go_wp2_with fail
        refine (isOpNo d _ H.out).mono ?_
        rintro e w' ⟨rfl, rfl⟩
        go_wp2
        rw [X.out]
        exact bodyPost_ret (v := .agg #[.int .i64 0, .int .i64 0, .string ⟨#[]⟩]) (by simp [results, Tryd.results75, go_sem]) rfl ⟨rfl, (Below.refl _ _).alloc (Nat.le_refl _) _⟩
      · have a1 : -4000000000000000000 ≤ n := by omega
        have a2 : n ≤ 4000000000000000000 := by omega
        have b1 : -4000000000000000000 ≤ d := by omega
        have b2 : d ≤ 4000000000000000000 := by omega
        have d0 : (d == 0) = false := by simp [hd]
        obtain ⟨g, p, q, hg, g0, g1, hp, hq, ⟨k1, k2⟩, ⟨k3, k4⟩, hyes, hno, hq1, _⟩ := make_facts (n := n) (d := d) (by unfold okR; omega)
        have Y := Lib.hid hyes
        have Z := Lib.hid hno
        have C := Lib.hid (hg ▸ implGcd n d)
        have D := Lib.hid hd
        clear hn hd hd2 hg hyes hno h h'
        by_cases hs : d < 0
        · rw [if_pos hs, Int.tdiv_neg] at hp hq
          have P := Lib.hid hp
          have Q := Lib.hid hq
          clear hp hq
          go_enter Tryd.func75, Tryd.ntmps75
          go_wp2_with fail
          refine (isOpYes n _ a1 a2).mono ?_
          rintro e w' ⟨rfl, rfl⟩
          go_wp2_with fail
          refine (isOpYes d _ b1 b2).mono ?_
          rintro e w' ⟨rfl, rfl⟩
          go_wp2_with fail
          refine (C.out _ a1 a2 b1 b2).mono ?_
          rintro e w' ⟨rfl, m, rfl⟩
          go_wp2
          go_region
          rw [P.out, Q.out]
          cases hb : isN ⟨p, q, ⟨#[]⟩⟩
          · have HB := Lib.hid hb
            have M := Lib.hid (Z.out hb)
            clear hb
            go_wp2_with fail
            refine (implNumNo p q ⟨#[]⟩ _ (by decide) HB.out).mono ?_
            rintro e w1 ⟨rfl, hb1⟩
            obtain ⟨hc, hf⟩ := bcell hb1
            have B1 := Lib.hid hb1
            have B2 := Lib.hid ((below_drewN' ((Below.refl w.heap.size w).alloc (Nat.le_refl _) _) _).alloc (by simp) _ |>.trans (hb1.mono (by simp; omega)))
            clear hb1
            go_wp2
            rw [M.out]
            exact item_ret rfl rfl rfl (blk_below B1.out (blk_old (blk_drewN (blk_new w _ rfl)))) ⟨rfl, below_three (B2.out) (Nat.le_refl _) _ _ _⟩
          · have HB := Lib.hid hb
            have M := Lib.hid (Y.out hb)
            clear hb
            go_wp2_with fail
            refine (implNumYes p q ⟨#[]⟩ _ (by decide) HB.out).mono ?_
            rintro e w1 ⟨rfl, hb1⟩
            obtain ⟨hc, hf⟩ := bcell hb1
            have B1 := Lib.hid hb1
            have B2 := Lib.hid ((below_drewN' ((Below.refl w.heap.size w).alloc (Nat.le_refl _) _) _).alloc (by simp) _ |>.trans (hb1.mono (by simp; omega)))
            clear hb1
            go_wp2
            rw [M.out]
            exact item_ret rfl rfl rfl (blk_below B1.out (blk_old (blk_drewN (blk_new w _ rfl)))) ⟨rfl, below_three (B2.out) (Nat.le_refl _) _ _ _⟩
        · rw [if_neg hs] at hp hq
          have P := Lib.hid hp
          have Q := Lib.hid hq
          clear hp hq
          go_enter Tryd.func75, Tryd.ntmps75
          go_wp2_with fail
          refine (isOpYes n _ a1 a2).mono ?_
          rintro e w' ⟨rfl, rfl⟩
          go_wp2_with fail
          refine (isOpYes d _ b1 b2).mono ?_
          rintro e w' ⟨rfl, rfl⟩
          go_wp2_with fail
          refine (C.out _ a1 a2 b1 b2).mono ?_
          rintro e w' ⟨rfl, m, rfl⟩
          go_wp2
          go_region
          rw [P.out, Q.out]
          cases hb : isN ⟨p, q, ⟨#[]⟩⟩
          · have HB := Lib.hid hb
            have M := Lib.hid (Z.out hb)
            clear hb
            go_wp2_with fail
            refine (implNumNo p q ⟨#[]⟩ _ (by decide) HB.out).mono ?_
            rintro e w1 ⟨rfl, hb1⟩
            obtain ⟨hc, hf⟩ := bcell hb1
            have B1 := Lib.hid hb1
            have B2 := Lib.hid ((below_drewN' ((Below.refl w.heap.size w).alloc (Nat.le_refl _) _) _).alloc (by simp) _ |>.trans (hb1.mono (by simp; omega)))
            clear hb1
            go_wp2
            rw [M.out]
            exact item_ret rfl rfl rfl (blk_below B1.out (blk_old (blk_drewN (blk_new w _ rfl)))) ⟨rfl, below_three (B2.out) (Nat.le_refl _) _ _ _⟩
          · have HB := Lib.hid hb
            have M := Lib.hid (Y.out hb)
            clear hb
            go_wp2_with fail
            refine (implNumYes p q ⟨#[]⟩ _ (by decide) HB.out).mono ?_
            rintro e w1 ⟨rfl, hb1⟩
            obtain ⟨hc, hf⟩ := bcell hb1
            have B1 := Lib.hid hb1
            have B2 := Lib.hid ((below_drewN' ((Below.refl w.heap.size w).alloc (Nat.le_refl _) _) _).alloc (by simp) _ |>.trans (hb1.mono (by simp; omega)))
            clear hb1
            go_wp2
            rw [M.out]
            exact item_ret rfl rfl rfl (blk_below B1.out (blk_old (blk_drewN (blk_new w _ rfl)))) ⟨rfl, below_three (B2.out) (Nat.le_refl _) _ _ _⟩
end Go.Proofs.YtjpdnabfpiengaaDoor

/- NumberVector on both sides. -/
namespace Go.Proofs.YtjpdnabfpiengaaDoor
open Go.RowKit
set_option maxRecDepth 100000
set_option linter.unusedVariables false

def numI (x : Int) : It := ⟨(mkI x 1).n, (mkI x 1).d, ⟨#[]⟩⟩
theorem numI_t (x : Int) : (numI x).t.size ≤ 1048576 := Nat.zero_le _
theorem numI_in (x : Int) : InB (numI x) := by
  have h : mkI x 1 = noI ∨ isN (mkI x 1) = true := by
    unfold mkI; split
    · exact (ofQ_cases _).imp id (fun h => h.1)
    · exact .inl rfl
  rcases h with h | h
  · unfold numI; rw [h]; exact ⟨by decide, by decide, Nat.zero_le _⟩
  · have := isN_iff.1 h
    exact ⟨by unfold numI; simp only; omega, by unfold numI; simp only; omega, Nat.zero_le _⟩
end Go.Proofs.YtjpdnabfpiengaaDoor

/- SequenceOf on both sides. -/
namespace Go.Proofs.YtjpdnabfpiengaaDoor
open Go.RowKit
set_option maxRecDepth 100000
set_option linter.unusedVariables false

def InW (x : Int) : Prop := -999999999 ≤ x ∧ x ≤ 999999999
def SeqOk (a b : Int) : Prop := InW a ∧ InW b ∧ (b - a).natAbs < 40
def seqI (a b : Int) (i : Nat) : Int := if a ≤ b then a + (i : Int) else a - (i : Int)
def seqG (a b : Int) (i : Nat) : It := ⟨seqI a b i, 1, ⟨#[]⟩⟩
noncomputable def seqV (a b : Int) : Vec := match bB (SeqOk a b) with | true => vecOf 2 (itF (seqG a b) ((b - a).natAbs + 1)) | false => noV
noncomputable def seqS (a b : Int) : ByteArray := match bB (SeqOk a b) with | true => ⟨#[]⟩ | false => bigB
theorem seqV_yes {a b : Int} (h : SeqOk a b) : seqV a b = vecOf 2 (itF (seqG a b) ((b - a).natAbs + 1)) := by unfold seqV; rw [bB_yes h]
theorem seqV_no {a b : Int} (h : ¬ SeqOk a b) : seqV a b = noV := by unfold seqV; rw [bB_no h]
theorem seqS_yes {a b : Int} (h : SeqOk a b) : seqS a b = ⟨#[]⟩ := by unfold seqS; rw [bB_yes h]
theorem seqS_no {a b : Int} (h : ¬ SeqOk a b) : seqS a b = bigB := by unfold seqS; rw [bB_no h]
theorem wrap64_id {x : Int} (h0 : -9223372036854775808 ≤ x) (h1 : x ≤ 9223372036854775807) : IntKind.wrap .i64 x = x := by
  exact IntWalk.i64_in x ⟨h0, h1⟩
theorem numI_whole {x : Int} (h : InW x) : numI x = ⟨x, 1, ⟨#[]⟩⟩ := by
  have e : Rat.divInt x 1 = (x : Rat) := by rw [Rat.divInt_eq_div]; grind
  have hn : isN ⟨(Rat.divInt x 1).num, (Rat.divInt x 1).den, ⟨#[]⟩⟩ = true := by
    rw [e, isN_iff]
    obtain ⟨h0, h1⟩ := h
    refine ⟨rfl, by simp, by simp, by simpa using h0, by simpa using h1, by simp⟩
  unfold numI
  obtain ⟨h0, h1⟩ := h
  rw [mkI_ok (by unfold okR; omega), ofQ_yes hn, e]
  simp
theorem seqI_in {a b : Int} (h : SeqOk a b) {i : Nat} (hi : i < (b - a).natAbs + 1) : InW (seqI a b i) := by
  obtain ⟨⟨h0, h1⟩, ⟨h2, h3⟩, h4⟩ := h
  unfold seqI InW; split <;> omega
theorem itF_congr {g h : Nat → It} {n : Nat} (e : ∀ i, i < n → g i = h i) : itF g n = itF h n := by
  unfold itF
  exact List.map_congr_left (fun i hi => e i (List.mem_range.1 hi))
theorem seq_items {a b : Int} (h : SeqOk a b) : itF (fun i => numI (seqI a b i)) ((b - a).natAbs + 1) = itF (seqG a b) ((b - a).natAbs + 1) :=
  itF_congr (fun i hi => numI_whole (seqI_in h hi))
/-- -1, 0 or 1. -/
def cmpZ (x y : Int) : Int := if x < y then -1 else if y < x then 1 else 0
/-- What an element of the program's list is. -/
theorem seqI_step {a b : Int} (i : Nat) (h : a = b → i = 0) : a + (i : Int) * cmpZ b a = seqI a b i := by
  unfold cmpZ seqI
  by_cases h1 : b < a
  · rw [if_pos h1, if_neg (by omega)]; omega
  · by_cases h2 : a < b
    · rw [if_neg h1, if_pos h2, if_pos (by omega)]; omega
    · have e : a = b := by omega
      rw [if_neg h1, if_neg h2, if_pos (by omega), h e]; simp
def intsF (f : Nat → Int) (n : Nat) : List Value := (List.range n).map (fun i => .int .i64 (f i))
theorem intsF_succ (f : Nat → Int) (n : Nat) : intsF f n ++ [.int .i64 (f n)] = intsF f (n + 1) := by unfold intsF; rw [List.range_succ, List.map_append]; rfl
/-- A row of the call's own that holds ints. -/
theorem ints_of_row {w : World} {B m : Nat} {v : Value} {f : Nat → Int} (h : w.ownsRow B 3 1 v m (intsF f m)) : ∃ sa c, v = .slice sa m c ∧ IntsAt w.heap.size w sa m f := by
  obtain ⟨_, h⟩ := h
  rcases h with ⟨rfl, rfl⟩ | ⟨g, cap, cur, rfl, hB, hg, hc, _, hs, ht⟩
  · exact ⟨none, 0, rfl, fun i hi => absurd hi (Nat.not_lt_zero _)⟩
  · refine ⟨some ⟨g, 0, none⟩, cap, rfl, fun i hi => ⟨g, 0, rfl, (Array.getElem?_eq_some_iff.1 hg).1, ?_⟩⟩
    rw [Nat.zero_add]
    refine cellOf hg ?_
    have h1 : (cur.toList.take (m * 1))[i]? = (intsF f m)[i]? := by rw [ht]
    rw [List.getElem?_take_of_lt (by omega), Array.getElem?_toList] at h1
    rw [h1]; unfold intsF; simp [hi]
/-- What the program's loop keeps: the result's block, the ints so far. -/
structure IntL (w wr : World) (f : Nat → Int) (k : Nat) (v : Value) : Prop where
  res : wr.heap[w.heap.size]? = some (.cells #[.int .i64 0, .slice none 0 0, .slice none 0 0, .slice none 0 0, .slice none 0 0, .slice none 0 0, .int .i64 0, .int .i64 0] 31 (0, 0))
  row : wr.ownsRow (w.heap.size + 1) 3 1 v k (intsF f k)
  below : Below w.heap.size w wr
theorem IntL.next {w wr w1 : World} {f : Nat → Int} {k : Nat} {z : Int} {v v' : Value} {o : Obj} (h : IntL w wr f k v) (hg : (wr.alloc o).grownBy w1 v.ownBlock) (hr : w1.ownsRow (w.heap.size + 1) 3 1 v' (k + 1) (intsF f k ++ [.int .i64 z])) (hz : z = f k) : IntL w w1 f (k + 1) v' := by
  subst hz
  have hlt := (Array.getElem?_eq_some_iff.1 h.res).1
  refine ⟨?_, intsF_succ f k ▸ hr, ?_⟩
  · refine (hg.block _ (by simp; omega) (fun e => ?_)).trans (blk_old h.res)
    have := (h.row.lt _ e.symm).1
    omega
  · exact (h.below.alloc h.below.size o).grown hg (by have := h.below.size; simp; omega) (fun r hr' => by have := (h.row.lt r hr').1; omega)
theorem IntL.start (w : World) (f : Nat → Int) : IntL w (w.alloc (.cells #[.int .i64 0, .slice none 0 0, .slice none 0 0, .slice none 0 0, .slice none 0 0, .slice none 0 0, .int .i64 0, .int .i64 0] 31)) f 0 (.slice none 0 0) := ⟨blk_new w _ rfl, ⟨rfl, .inl ⟨rfl, rfl⟩⟩, below1 w _⟩
end Go.Proofs.YtjpdnabfpiengaaDoor

/- The reference's view of a vector as numbers and as logical values. -/
namespace Go.Proofs.YtjpdnabfpiengaaDoor
open Go.RowKit
set_option maxRecDepth 100000
set_option linter.unusedVariables false

theorem specNumsY (k : Int) (ai ap an ac al : Option Addr) (ni ci np cp nn cn nc cc nl cl : Nat) (code env : Int) (w : World) (h : k ≤ 2) (hl : nl = 0) :
    Calls Tryd.prog 85 #[.agg #[.int .i64 k, .slice ai ni ci, .slice ap np cp, .slice an nn cn, .slice ac nc cc, .slice al nl cl, .int .i64 code, .int .i64 env]] w fun e w' => e = .returned (.tuple #[.slice ai ni ci, .bool true]) ∧ Below w.heap.size w w' := by
  subst hl
  go_enter Tryd.func85, Tryd.ntmps85
  go_wp2
  go_ret2
  exact ⟨rfl, below1 _ _⟩
theorem specNumsN (k : Int) (ai ap an ac al : Option Addr) (ni ci np cp nn cn nc cc nl cl : Nat) (code env : Int) (w : World) (h : ¬ (k ≤ 2 ∧ nl = 0)) :
    Calls Tryd.prog 85 #[.agg #[.int .i64 k, .slice ai ni ci, .slice ap np cp, .slice an nn cn, .slice ac nc cc, .slice al nl cl, .int .i64 code, .int .i64 env]] w fun e w' => (∃ sa c, e = .returned (.tuple #[.slice sa 0 c, .bool false])) ∧ Below w.heap.size w w' := by
  by_cases h2 : k ≤ 2
  · have hl : 0 < nl := by omega
    clear h
    go_enter Tryd.func85, Tryd.ntmps85
    go_wp2
    go_ret2
    exact ⟨⟨_, _, rfl⟩, (below1 _ _).alloc (by simp) _⟩
  · have h3 : 2 < k := by omega
    clear h h2
    go_enter Tryd.func85, Tryd.ntmps85
    go_wp2
    go_ret2
    exact ⟨⟨_, _, rfl⟩, (below1 _ _).alloc (by simp) _⟩
/-- What a loop that appends ints keeps. -/
structure IntR (w wr : World) (f : Nat → Int) (k : Nat) (v : Value) : Prop where
  row : wr.ownsRow w.heap.size 3 1 v k (intsF f k)
  below : Below w.heap.size w wr
theorem IntR.next {w wr w1 : World} {f : Nat → Int} {k : Nat} {z : Int} {v v' : Value} {o : Obj} (h : IntR w wr f k v) (hg : (wr.alloc o).grownBy w1 v.ownBlock) (hr : w1.ownsRow w.heap.size 3 1 v' (k + 1) (intsF f k ++ [.int .i64 z])) (hz : z = f k) : IntR w w1 f (k + 1) v' := by
  subst hz
  exact ⟨intsF_succ f k ▸ hr, (h.below.alloc h.below.size o).grown hg (by have := h.below.size; simp; omega) (fun r hr' => (h.row.lt r hr').1)⟩
theorem IntR.below' {w wr w1 : World} {f : Nat → Int} {k : Nat} {v : Value} (h : IntR w wr f k v) (hb : Below wr.heap.size wr w1) : IntR w w1 f k v := ⟨ownsRow_below h.row hb, below_then h.below hb⟩
set_option maxHeartbeats 2000000 in
theorem specLogY (k : Int) (items : List It) (ai ap an ac al : Option Addr) (ci np cp nn cn nc cc nl cl : Nat) (code env : Int) (lo hi : Nat) (w : World) (hI : ItemsAt lo hi w ai items) (hhi : hi ≤ w.heap.size) (hk : k ≤ 2) (hl : nl = 0) (hn : items.length ≤ 1048576) (hit : ∀ i, i < items.length → NumIt (items.getD i noI)) :
    Calls Tryd.prog 64 #[.agg #[.int .i64 k, .slice ai items.length ci, .slice ap np cp, .slice an nn cn, .slice ac nc cc, .slice al nl cl, .int .i64 code, .int .i64 env]] w fun e w' => ∃ sa c, e = .returned (.tuple #[.slice sa items.length c, .bool true]) ∧ w'.ownsRow w.heap.size 3 1 (.slice sa items.length c) items.length (intsF (fun i => truthI (items.getD i noI)) items.length) ∧ Below w.heap.size w w' := by
  have AI := Lib.hid (fun (k : Nat) (w1 : World) (hk : k < items.length) (hb : Below w.heap.size w w1) => (hI.below hb hhi).at_ hk)
  have XI := Lib.hid hit
  have CN := Lib.hid (fun W => specNumsY k ai ap an ac al items.length ci np cp nn cn nc cc nl cl code env W hk hl)
  obtain ⟨n, h_⟩ : ∃ x, items.length = x := ⟨_, rfl⟩
  rw [h_] at AI XI CN hn ⊢
  obtain ⟨f, hf⟩ : ∃ f : Nat → Int, (fun i => truthI (items.getD i noI)) = f := ⟨_, rfl⟩
  rw [hf]
  have TR := Lib.hid (fun i => (by rw [← hf] : f i = truthI (items.getD i noI)))
  obtain ⟨i0, hi0, hz0, hz1, hz2⟩ := info_parts infoInt
  clear h_ hI hit hk hl hf
  go_enter Tryd.func64, Tryd.ntmps64
  go_wp2_with fail
  obtain ⟨w1, hw1⟩ : ∃ W, (w.alloc (.cells #[.int .i64 k, .slice ai n ci, .slice ap np cp, .slice an nn cn, .slice ac nc cc, .slice al nl cl, .int .i64 code, .int .i64 env] 31)).alloc (.cells #[] 3) = W := ⟨_, rfl⟩
  have hsz : (w.alloc (.cells #[.int .i64 k, .slice ai n ci, .slice ap np cp, .slice an nn cn, .slice ac nc cc, .slice al nl cl, .int .i64 code, .int .i64 env] 31)).heap.size = w.heap.size + 1 := by simp
  have B1 := Lib.hid (show Below w.heap.size w w1 from hw1 ▸ (below1 w _).alloc (by simp) _)
  have K1 := Lib.hid (show w1.heap[w.heap.size + 1]? = some (.cells #[] 3 (0, 0)) from hw1 ▸ hsz ▸ blk_new (w.alloc (.cells #[.int .i64 k, .slice ai n ci, .slice ap np cp, .slice an nn cn, .slice ac nc cc, .slice al nl cl, .int .i64 code, .int .i64 env] 31)) (.cells #[] 3) rfl)
  rw [hw1]
  clear hw1 hsz
  with_reducible refine (CN.out _).mono ?_
  rintro e w2 ⟨rfl, b⟩
  have ST := Lib.hid (show IntR w w2 f 0 (.slice (some ⟨w.heap.size + 1, 0, none⟩) 0 0) from ⟨⟨rfl, .inr ⟨w.heap.size + 1, 0, #[], rfl, Nat.le_succ _, blk_below b K1.out, Nat.le_refl _, Nat.zero_le _, rfl, rfl⟩⟩, below_then B1.out b⟩)
  clear b B1 K1
  go_wp2
  go_loopw [4, 7] (fun v i wr => ∃ k : Nat, k ≤ n ∧ i = .int .i64 k ∧ IntR w wr f k v) (fun _ i _ => n - (intOf i).toNat)
  case atStart => exact ⟨0, Nat.zero_le _, rfl, ST.out⟩
  case round =>
    obtain ⟨k, hk, rfl, hil⟩ := hrel
    have IL := Lib.hid hil
    clear hil
    by_cases hlt : k < n
    · obtain ⟨ba, off, rfl, hbB, c0, c1, c2⟩ := AI.out _ _ hlt IL.out.below
      have hxn := XI.out k hlt
      obtain ⟨⟨xn, xd, xt⟩, hx⟩ : ∃ x : It, items.getD k noI = x := ⟨_, rfl⟩
      rw [hx] at hxn
      have hn0 : -999999999 ≤ xn := hxn.n0
      have hn1 : xn ≤ 999999999 := hxn.n1
      simp only [hx] at c0 c1
      clear c2 hxn
      by_cases hd : xd = 0
      · have EQK := Lib.hid (show (2 : Int) = f k by rw [TR.out, hx]; unfold truthI; rw [if_pos hd])
        have OR := Lib.hid (IL.out.row.alloc (.cells #[.int .i64 2] 3))
        clear hx
        subst hd
        go_wp2_with (at_builtin; refine wpList_append_own _ rfl _ _ 77 rfl w.heap.size 3 i0 (.int .i64 0) 1 8 Tryd.underlying77 hi0 hz0 hz1 hz2 rfl (by decide) _ k (intsF f k) rfl OR.out ⟨wr.heap.size, 0, none⟩ 1 1 [.int .i64 2] rfl rfl ?c1 ?c2 ?c3 ?c4 ?c5 ?_)
        case c1 =>
          intro j u hj
          obtain rfl : j = 0 := by have := (List.getElem?_eq_some_iff.1 hj).1; simpa using this
          obtain rfl : Value.int .i64 2 = u := by simpa using hj
          rw [addr_add]
          exact cellOf (blk_new wr _ rfl) rfl
        case c2 => intro u hu; obtain rfl := List.mem_singleton.1 hu; rfl
        case c3 => unfold maxLen; omega
        case c4 => omega
        case c5 => have := IL.out.below.size; simp; omega
        intro v' w1 hown' hgrow _
        have NX := Lib.hid (IL.out.next hgrow hown' EQK.out)
        clear hown' hgrow
        go_wp2
        go_roundw
        case rel => exact ⟨k + 1, by omega, by go_num, NX.out⟩
        case measure => simp [intOf]; omega
      · have hdb : (xd == 0) = false := by simp [hd]
        have AB := Lib.hid (fun W => specAbs xn W (by omega) (by omega))
        obtain ⟨q, hq⟩ : ∃ q, xn.natAbs = q := ⟨_, rfl⟩
        rw [hq] at AB
        by_cases hxz : xn = 0
        · have EQK := Lib.hid (show (0 : Int) = f k by rw [TR.out, hx]; unfold truthI; rw [if_neg hd, if_pos hxz])
          have OR := Lib.hid (IL.out.row.alloc (.cells #[.int .i64 0] 3))
          obtain rfl : q = 0 := by omega
          clear hx hq hxz
          go_wp2_with fail
          with_reducible refine (AB.out _).mono ?_
          rintro e w' ⟨rfl, rfl⟩
          go_wp2_with (at_builtin; refine wpList_append_own _ rfl _ _ 77 rfl w.heap.size 3 i0 (.int .i64 0) 1 8 Tryd.underlying77 hi0 hz0 hz1 hz2 rfl (by decide) _ k (intsF f k) rfl OR.out ⟨wr.heap.size, 0, none⟩ 1 1 [.int .i64 0] rfl rfl ?c1 ?c2 ?c3 ?c4 ?c5 ?_)
          case c1 =>
            intro j u hj
            obtain rfl : j = 0 := by have := (List.getElem?_eq_some_iff.1 hj).1; simpa using this
            obtain rfl : Value.int .i64 0 = u := by simpa using hj
            rw [addr_add]
            exact cellOf (blk_new wr _ rfl) rfl
          case c2 => intro u hu; obtain rfl := List.mem_singleton.1 hu; rfl
          case c3 => unfold maxLen; omega
          case c4 => omega
          case c5 => have := IL.out.below.size; simp; omega
          intro v' w1 hown' hgrow _
          have NX := Lib.hid (IL.out.next hgrow hown' EQK.out)
          clear hown' hgrow
          go_wp2
          go_roundw
          case rel => exact ⟨k + 1, by omega, by go_num, NX.out⟩
          case measure => simp [intOf]; omega
        · have EQK := Lib.hid (show (1 : Int) = f k by rw [TR.out, hx]; unfold truthI; rw [if_neg hd, if_neg hxz])
          have OR := Lib.hid (IL.out.row.alloc (.cells #[.int .i64 1] 3))
          have hq1 : 1 ≤ (q : Int) := by omega
          have hq2 : (q : Int) ≤ 999999999 := by omega
          clear hx hq hxz
          go_wp2_with fail
          with_reducible refine (AB.out _).mono ?_
          rintro e w' ⟨rfl, rfl⟩
          go_wp2_with (at_builtin; refine wpList_append_own _ rfl _ _ 77 rfl w.heap.size 3 i0 (.int .i64 0) 1 8 Tryd.underlying77 hi0 hz0 hz1 hz2 rfl (by decide) _ k (intsF f k) rfl OR.out ⟨wr.heap.size, 0, none⟩ 1 1 [.int .i64 1] rfl rfl ?c1 ?c2 ?c3 ?c4 ?c5 ?_)
          case c1 =>
            intro j u hj
            obtain rfl : j = 0 := by have := (List.getElem?_eq_some_iff.1 hj).1; simpa using this
            obtain rfl : Value.int .i64 1 = u := by simpa using hj
            rw [addr_add]
            exact cellOf (blk_new wr _ rfl) rfl
          case c2 => intro u hu; obtain rfl := List.mem_singleton.1 hu; rfl
          case c3 => unfold maxLen; omega
          case c4 => omega
          case c5 => have := IL.out.below.size; simp; omega
          intro v' w1 hown' hgrow _
          have NX := Lib.hid (IL.out.next hgrow hown' EQK.out)
          clear hown' hgrow
          go_wp2
          go_roundw
          case rel => exact ⟨k + 1, by omega, by go_num, NX.out⟩
          case measure => simp [intOf]; omega
    · obtain rfl : k = n := by omega
      have h1 := IL.out.row
      obtain ⟨sa, c, rfl, _⟩ := ints_of_row h1
      go_wp2
      go_ret2
      exact ⟨sa, c, rfl, IL.out.row, IL.out.below⟩
set_option maxHeartbeats 2000000 in
theorem specLogN (k : Int) (ai ap an ac al : Option Addr) (ni ci np cp nn cn nc cc nl cl : Nat) (code env : Int) (w : World) (h : ¬ (k ≤ 2 ∧ nl = 0)) :
    Calls Tryd.prog 64 #[.agg #[.int .i64 k, .slice ai ni ci, .slice ap np cp, .slice an nn cn, .slice ac nc cc, .slice al nl cl, .int .i64 code, .int .i64 env]] w fun e w' => (∃ sa c, e = .returned (.tuple #[.slice sa 0 c, .bool false])) ∧ Below w.heap.size w w' := by
  have CN := Lib.hid (fun W => specNumsN k ai ap an ac al ni ci np cp nn cn nc cc nl cl code env W h)
  have B1 := Lib.hid ((below1 w (.cells #[.int .i64 k, .slice ai ni ci, .slice ap np cp, .slice an nn cn, .slice ac nc cc, .slice al nl cl, .int .i64 code, .int .i64 env] 31)).alloc (by simp) (.cells #[] 3))
  clear h
  go_enter Tryd.func64, Tryd.ntmps64
  go_wp2_with fail
  with_reducible refine (CN.out _).mono ?_
  rintro e w2 ⟨⟨sa, c, rfl⟩, b⟩
  have B2 := Lib.hid (below_then B1.out b)
  clear b
  go_wp2
  refine wp_loop_rounds 1 ?_
  rw [rounds_succ]
  go_wp2
  go_ret2
  exact ⟨⟨_, _, rfl⟩, B2.out⟩
theorem specBad (w : World) : Calls Tryd.prog 50 #[] w fun e w' => e = .returned (.tuple #[.agg #[.int .i64 0, .slice none 0 0, .slice none 0 0, .slice none 0 0, .slice none 0 0, .slice none 0 0, .int .i64 0, .int .i64 0], .string badB]) ∧ Below w.heap.size w w' := by
  go_enter Tryd.func50, Tryd.ntmps50
  go_wp2
  exact vec_ret0S rfl rfl rfl rfl (blk_new w _ rfl) ⟨rfl, below1 w _⟩
end Go.Proofs.YtjpdnabfpiengaaDoor

/- Ints that are appended in a region that draws its order; remainders. -/
namespace Go.Proofs.YtjpdnabfpiengaaDoor
open Go.RowKit
set_option maxRecDepth 100000
set_option linter.unusedVariables false

section
variable {P : Program} {ops : Array Oper} {Q : Exit → Act → World → Prop} {S : World → Prop}
variable {r : List (Nat × Bool)} {a : Act} {e : List (Nat × Value)} {w : World} {i d : Nat} {g : Option (Nat × Bool)} {v : Value}
theorem run_rem {x y : Operand} {t t' : TypeId} {k : IntKind} {p q z : Int} (ho : opAt ops i = some (some d, .binOp .rem t x y t', g)) (hd : Nat.blt d a.tmps.size = true)
    (hw : wantE ops a e g = some true) (hx : lookO a e x = .int k p) (hy : lookO a e y = .int k q) (hz : q ≠ 0 ∧ p.tmod q = z)
    (h : RunE P ops Q S r a ((d, .int k z) :: e) w) : RunE P ops Q S ((i, true) :: r) a e w :=
  run_yield ho hd hw (fun o w' h1 _ => by
    unfold execOp; rw [h1]; simp only [hx, hy]; obtain ⟨h0, rfl⟩ := hz
    simp [eqGuard, binOp, Op.intDiv, go_sem, h0]) h
end
section
variable {ops : Array Oper} {Q : Exit → Act → World → Prop} {S : World → Prop}
variable {r : List (Nat × Bool)} {a : Act} {e : List (Nat × Value)} {w : World} {i d : Nat} {g : Option (Nat × Bool)} {v : Value}
theorem fill_int (z : Int) : Instr.fill (fun i => some (i * 1, 1)) ((Array.range (1 * 1)).map ((Value.int .i64 0).cells[· % (Value.int .i64 0).cells.size]!)) [(0, .int .i64 z)] = some #[.int .i64 z] := by
  have h := Great.fill_whole (s := 1) (by decide) [.int .i64 z] ((Array.range (1 * 1)).map ((Value.int .i64 0).cells[· % (Value.int .i64 0).cells.size]!)) (fun v hv => by obtain rfl := List.mem_singleton.1 hv; rfl) (by simp)
  exact h
theorem run_build_int {x : Operand} (z : Int) (ho : opAt ops i = some (some d, .buildSlice 77 1 #[(0, x)], g)) (hd : Nat.blt d a.tmps.size = true) (hw : wantE ops a e g = some true)
    (hx : lookO a e x = .int .i64 z) (h : ∀ W, W = w.alloc (.cells #[.int .i64 z] 3) → S W ∧ RunE Tryd.prog ops Q S r a ((d, .slice (some ⟨w.heap.size, 0, none⟩) 1 1) :: e) W) : RunE Tryd.prog ops Q S ((i, false) :: r) a e w := by
  obtain ⟨ie, hie, hz, hsz, _⟩ := info_parts infoInt
  obtain ⟨hS, hR⟩ := h _ rfl
  exact run_build ho hd hw hx Tryd.underlying77 hie hz (by rw [hsz]; decide) (by rw [hsz]; decide) (by rw [hsz]; exact fill_int z) hS hR
theorem run_app_int {x y : Operand} {v0 : Value} {b : Nat} (z : Int) {f : Nat → Int} {k base : Nat} (ho : opAt ops i = some (some d, .call { callee := .builtin .append, args := [x, y].toArray, argTypes := [77, 77].toArray }, g)) (hd : Nat.blt d a.tmps.size = true) (hw : wantE ops a e g = some true)
    (hx : lookO a e x = v0) (hy : lookO a e y = .slice (some ⟨b, 0, none⟩) 1 1) (hown : w.ownsRow base 3 1 v0 k (intsF f k)) (hb : w.heap[b]? = some (.cells #[.int .i64 z] 3 (0, 0)))
    (hn : k ≤ 1048576) (hbase : base ≤ w.heap.size)
    (h : ∀ v' w', w'.ownsRow base 3 1 v' (k + 1) (intsF f k ++ [.int .i64 z]) → w.grownBy w' v0.ownBlock → S w' ∧ RunE Tryd.prog ops Q S r a ((d, v') :: e) w') : RunE Tryd.prog ops Q S ((i, false) :: r) a e w := by
  obtain ⟨ie, hie, hz, hsz, hby⟩ := info_parts infoInt
  refine run_app ho hd hw hx ⟨b, 0, none⟩ 1 1 hy base ie _ 1 8 Tryd.underlying77 hie hz hsz hby rfl (by decide) k (intsF f k) hown [.int .i64 z] rfl (fun j u hj => ?_) (fun u hu => by obtain rfl := List.mem_singleton.1 hu; rfl) (by unfold maxLen; omega) (by omega) hbase (fun v' w' h1 h2 => ?_)
  · obtain rfl : j = 0 := by have := (List.getElem?_eq_some_iff.1 hj).1; simpa using this
    obtain rfl : Value.int .i64 z = u := by simpa using hj
    rw [addr_add]
    exact cellOf hb rfl
  · exact h v' w' h1 h2
theorem IntR.keep {w wr w1 : World} {f : Nat → Int} {k : Nat} {v : Value} (h : IntR w wr f k v) (hb : Below wr.heap.size wr w1) : IntR w w1 f k v := h.below' hb
/-- A literal of one int, its append and the assignment: the end of a region. -/
theorem tail_int {w0 : World} {i1 i2 i3 d1 d2 d3 k : Nat} {x s : Operand} {v0 : Value} (z : Int) {f : Nat → Int}
    (ho1 : opAt ops i1 = some (some d1, .buildSlice 77 1 #[(0, x)], none)) (hd1 : Nat.blt d1 a.tmps.size = true) (hx : lookO a e x = .int .i64 z)
    (ho2 : opAt ops i2 = some (some d2, .call { callee := .builtin .append, args := [s, .tmp d1].toArray, argTypes := [77, 77].toArray }, none)) (hd2 : Nat.blt d2 a.tmps.size = true) (hs : ∀ u, lookO a ((d1, u) :: e) s = v0)
    (ho3 : opAt ops i3 = some (some d3, .assign (.tmp d2), none)) (hd3 : Nat.blt d3 a.tmps.size = true)
    (hr : IntR w0 w f k v0) (hn : k ≤ 1048576)
    (h : ∀ v' W, IntR w0 W f (k + 1) v' → Q .normal (putAll a ((d3, v') :: (d2, v') :: (d1, .slice (some ⟨w.heap.size, 0, none⟩) 1 1) :: e)) W) (hz : z = f k) :
    RunE Tryd.prog ops Q (fun w' => HeldC w0 w' []) [(i1, false), (i2, false), (i3, true)] a e w := by
  refine run_build_int z ho1 hd1 rfl hx (fun W1 hW1 => ?_)
  have hb1 : Below w0.heap.size w0 W1 := hW1 ▸ hr.below.alloc hr.below.size _
  have hK : W1.heap[w.heap.size]? = some (.cells #[.int .i64 z] 3 (0, 0)) := hW1 ▸ blk_new w _ rfl
  have hO : W1.ownsRow w0.heap.size 3 1 v0 k (intsF f k) := hW1 ▸ ownsRow_below hr.row (below1 w _)
  refine ⟨⟨hb1, (fun _ h => by cases h)⟩, run_app_int z ho2 hd2 rfl (hs _) (look_new _ _) hO hK hn hb1.size (fun v' W2 hO2 hg2 => ?_)⟩
  have hN : IntR w0 W2 f (k + 1) v' := hr.next (o := .cells #[.int .i64 z] 3) (hW1 ▸ hg2) hO2 hz
  exact ⟨⟨hN.below, (fun _ h => by cases h)⟩, run_asg ho3 hd3 rfl (look_new _ _) (run_done (h v' W2 hN))⟩
end
end Go.Proofs.YtjpdnabfpiengaaDoor

/- Calls by a function's value, items at an index, items that are appended to a local slice: operations of a region that draws its order. -/
namespace Go.Proofs.YtjpdnabfpiengaaDoor
open Go.RowKit
set_option maxRecDepth 100000
set_option linter.unusedVariables false

section
variable {P : Program} {ops : Array Oper} {Q : Exit → Act → World → Prop} {S : World → Prop}
variable {r : List (Nat × Bool)} {a : Act} {e : List (Nat × Value)} {w : World} {i d : Nat} {g : Option (Nat × Bool)} {v : Value}
/-- A call of a function's value. -/
theorem run_callv {x : Operand} {f : FuncId} {first cap : Array Value} {xs : List Operand} {ats : Array TypeId} {args : List Value} (ho : opAt ops i = some (some d, .call { callee := .value x, args := xs.toArray, argTypes := ats }, g))
    (hd : Nat.blt d a.tmps.size = true) (hw : wantE ops a e g = some true) (hf : lookO a e x = .func (.func f) first cap) (hg : callsGo P f = true) (hx : xs.map (lookO a e) = args)
    (h : Calls P f (first ++ args.toArray ++ cap) w fun en w' => ∃ v, en = .returned v ∧ S w' ∧ RunE P ops Q S r a ((d, v) :: e) w') : RunE P ops Q S ((i, false) :: r) a e w := by
  refine ⟨fun hk => ?_⟩
  obtain ⟨o, hi, h1, h2, h3⟩ := opAt_spec ho
  show wpOp P ops Q i (fun a' w' => (lastK ops i = true ∨ S w') ∧ seqH P ops Q S r a' w') (putAll a e) w
  unfold wpOp
  simp only [hi, if_pos (wantE_spec hk (by rw [h3]; exact hw))]
  left
  unfold Oper.wp
  have hrun : (execOp (putAll a e).eval o).run P w = .ok (.enter f (first ++ args.toArray ++ cap)) w := by
    rw [eval_putAll a e hk]
    unfold execOp
    rw [h2]
    have : (resolve (lookO a e) { callee := .value x, args := xs.toArray, argTypes := ats } o.type) = pure { target := .fn (.func f) cap, args := first ++ args.toArray } := by
      unfold resolve
      simp only [List.map_toArray, hx, hf]
      rfl
    simp only [this]
    show (callFunc f (first ++ args.toArray ++ cap)).run P w = _
    exact callsGo_run hg
  rw [hrun]
  simp only [Oper.upon]
  refine h.mono ?_
  rintro en w' ⟨v, rfl, hS, hr⟩
  rw [h1]
  exact ⟨.inr hS, hr.out (keysIn_cons hd hk)⟩
end
section
variable {ops : Array Oper} {Q : Exit → Act → World → Prop} {S : World → Prop} {w0 : World} {L : List (Nat × TypeId × Array Value)}
variable {r : List (Nat × Bool)} {a : Act} {e : List (Nat × Value)} {w : World} {i d : Nat} {g : Option (Nat × Bool)} {v : Value}
/-- The address of an item of a slice. -/
theorem run_idx3 {x y : Operand} {b off n c k : Nat} (ho : opAt ops i = some (some d, .indexAddr 28 x y, g)) (hd : Nat.blt d a.tmps.size = true) (hw : wantE ops a e g = some true)
    (hx : lookO a e x = .slice (some ⟨b, off, none⟩) n c) (hy : lookO a e y = .int .i64 (k : Int)) (hk : k < n)
    (h : RunE Tryd.prog ops Q S r a ((d, .pointer (some ⟨b, off + k * 3, none⟩)) :: e) w) : RunE Tryd.prog ops Q S ((i, true) :: r) a e w :=
  run_yield ho hd hw (fun o w' h1 _ => by
    unfold execOp; rw [h1]; simp only [hx, hy]
    refine run_v ?_
    obtain ⟨ie, hie, _, hsz, _⟩ := info_parts infoItm3
    have he : Tryd.prog.elem 28 = 56 := by kernel_rfl
    rw [← he] at hie
    rw [run_indexAt_slice (h := Tryd.underlying28), if_pos ⟨Int.natCast_nonneg k, by omega⟩]
    simp [sizeOf, typeInfo, hie, hsz, addr_add]) h
/-- An item that lay there at the outset. -/
theorem runC_oldI {x : Operand} {b j : Nat} {z : It} (ho : opAt ops i = some (some d, .load 56 x, g)) (hd : Nat.blt d a.tmps.size = true) (hw : wantE ops a e g = some true)
    (hx : lookO a e x = .pointer (some ⟨b, j, none⟩)) (hb : b < w0.heap.size) (h0 : w0.cell? ⟨b, j, none⟩ = some (.int .i64 z.n)) (h1 : w0.cell? ⟨b, j + 1, none⟩ = some (.int .i64 z.d)) (h2 : w0.cell? ⟨b, j + 2, none⟩ = some (.string z.t))
    (h : RunE Tryd.prog ops Q (fun w' => HeldC w0 w' L) r a ((d, .agg #[.int .i64 z.n, .int .i64 z.d, .string z.t]) :: e) w) : RunE Tryd.prog ops Q (fun w' => HeldC w0 w' L) ((i, true) :: r) a e w :=
  run_load ho hd hw hx (fun w' hS => run_loadVar_mid w' b j 56 [.int .i64 z.n, .int .i64 z.d, .string z.t] _ (fun k v hv => by
    have hlt : k < 3 := by have := (List.getElem?_eq_some_iff.1 hv).1; simpa using this
    rw [hS.1.cell (p := ⟨b, j + k, none⟩) hb, ← hv]
    rcases (show k = 0 ∨ k = 1 ∨ k = 2 by omega) with rfl | rfl | rfl
    · exact h0
    · exact h1
    · exact h2) Tryd.underlying56 rfl infoItem) h
/-- What a loop that appends items to a local slice keeps. -/
structure ItR (w wr : World) (l : List It) (v : Value) : Prop where
  row : wr.ownsRow w.heap.size 56 3 v l.length (itCells l)
  below : Below w.heap.size w wr
theorem ItR.keep {w wr w1 : World} {l : List It} {v : Value} (h : ItR w wr l v) (hb : Below wr.heap.size wr w1) : ItR w w1 l v := ⟨ownsRow_below h.row hb, below_then h.below hb⟩
/-- A literal of one item, its append and the assignment: the end of a region. -/
theorem tail_its {i1 i2 i3 d1 d2 d3 : Nat} {x s : Operand} {v0 : Value} (z : It) {l : List It}
    (ho1 : opAt ops i1 = some (some d1, .buildSlice 28 1 #[(0, x)], none)) (hd1 : Nat.blt d1 a.tmps.size = true) (hx : lookO a e x = .agg #[.int .i64 z.n, .int .i64 z.d, .string z.t])
    (ho2 : opAt ops i2 = some (some d2, .call { callee := .builtin .append, args := [s, .tmp d1].toArray, argTypes := [28, 28].toArray }, none)) (hd2 : Nat.blt d2 a.tmps.size = true) (hs : ∀ u, lookO a ((d1, u) :: e) s = v0)
    (ho3 : opAt ops i3 = some (some d3, .assign (.tmp d2), none)) (hd3 : Nat.blt d3 a.tmps.size = true)
    (hr : ItR w0 w l v0) (hn : l.length ≤ 1048576)
    (h : ∀ v' W, ItR w0 W (l ++ [z]) v' → Q .normal (putAll a ((d3, v') :: (d2, v') :: (d1, .slice (some ⟨w.heap.size, 0, none⟩) 1 1) :: e)) W) :
    RunE Tryd.prog ops Q (fun w' => HeldC w0 w' []) [(i1, false), (i2, false), (i3, true)] a e w := by
  refine run_build_item z ho1 hd1 rfl hx (fun W1 hW1 => ?_)
  have hb1 : Below w0.heap.size w0 W1 := hW1 ▸ hr.below.alloc hr.below.size _
  have hK : W1.heap[w.heap.size]? = some (.cells #[.int .i64 z.n, .int .i64 z.d, .string z.t] 56 (0, 0)) := hW1 ▸ blk_new w _ rfl
  have hO : W1.ownsRow w0.heap.size 56 3 v0 l.length (itCells l) := hW1 ▸ ownsRow_below hr.row (below1 w _)
  refine ⟨⟨hb1, (fun _ h => by cases h)⟩, run_app_item z ho2 hd2 rfl (hs _) (look_new _ _) hO hK hn hb1.size (fun v' W2 hO2 hg2 => ?_)⟩
  have hN : ItR w0 W2 (l ++ [z]) v' := ⟨hO2, hb1.grown hg2 hb1.size (fun r hr' => (hO.lt r hr').1)⟩
  exact ⟨⟨hN.below, (fun _ h => by cases h)⟩, run_asg ho3 hd3 rfl (look_new _ _) (run_done (h v' W2 hN))⟩
end
end Go.Proofs.YtjpdnabfpiengaaDoor

/- Chapter 7: problems, the first equal element. -/
namespace Go.Proofs.YtjpdnabfpiengaaDoor
open Go.RowKit
set_option maxRecDepth 100000
set_option linter.unusedVariables false

/-- "not an atomic vector" and its like. -/
def natB : ByteArray := ⟨#[110, 111, 116, 32, 97, 110, 32, 97, 116, 111, 109, 105, 99, 32, 118, 101, 99, 116, 111, 114]⟩
def nlgB : ByteArray := ⟨#[110, 111, 116, 32, 97, 32, 108, 111, 103, 105, 99, 97, 108, 32, 118, 101, 99, 116, 111, 114]⟩
def nelB : ByteArray := ⟨#[110, 111, 116, 32, 97, 32, 118, 101, 99, 116, 111, 114, 32, 111, 102, 32, 101, 108, 101, 109, 101, 110, 116, 115]⟩
def kindV (v : Vec) : Int := match v with | .mk k _ _ _ _ _ _ _ => k
/-- The problem of a vector that must be atomic or NULL. -/
noncomputable def atmS (v : Vec) : ByteArray := match bB (ValidV v), bB (kindV v ≤ 3) with | false, _ => badB | true, false => natB | true, true => ⟨#[]⟩
theorem atmS_bad {v : Vec} (h : ¬ ValidV v) : atmS v = badB := by unfold atmS; rw [bB_no h]
theorem atmS_non {v : Vec} (h : ValidV v) (hk : ¬ kindV v ≤ 3) : atmS v = natB := by unfold atmS; rw [bB_yes h, bB_no hk]
theorem atmS_yes {v : Vec} (h : ValidV v) (hk : kindV v ≤ 3) : atmS v = ⟨#[]⟩ := by unfold atmS; rw [bB_yes h, bB_yes hk]
theorem atmS_iff {v : Vec} : atmS v = ⟨#[]⟩ ↔ (ValidV v ∧ kindV v ≤ 3) := by
  constructor
  · intro e
    by_cases h : ValidV v
    · by_cases hk : kindV v ≤ 3
      · exact ⟨h, hk⟩
      · rw [atmS_non h hk] at e; exact absurd e (by decide)
    · rw [atmS_bad h] at e; exact absurd e (by decide)
  · intro h; exact atmS_yes h.1 h.2
/-- Is r the first place of x in l, or -1? -/
def FirstIs (l : List It) (x : It) (r : Int) : Prop := (r = -1 ∧ ∀ i, i < l.length → l.getD i noI ≠ x) ∨ ∃ j : Nat, r = j ∧ j < l.length ∧ l.getD j noI = x ∧ ∀ i, i < j → l.getD i noI ≠ x
/-- Is there an equal element ahead? -/
def DupAt (l : List It) (i : Nat) : Prop := ∃ j, j < i ∧ l.getD j noI = l.getD i noI
theorem first_dup {l : List It} {i : Nat} {r : Int} (hi : i < l.length) (h : FirstIs l (l.getD i noI) r) : 0 ≤ r ∧ r ≤ i ∧ (r = i ↔ ¬ DupAt l i) := by
  rcases h with ⟨_, h⟩ | ⟨j, rfl, hj, he, hn⟩
  · exact absurd rfl (h i hi)
  · have hle : j ≤ i := by
      rcases Nat.lt_or_ge i j with h | h
      · exact absurd rfl (hn i h)
      · exact h
    refine ⟨by omega, by omega, ⟨fun e => ?_, fun h => ?_⟩⟩
    · rintro ⟨q, hq, e2⟩
      exact hn q (by omega) e2
    · rcases Nat.lt_or_ge j i with h1 | h1
      · exact absurd ⟨j, h1, he⟩ h
      · omega
theorem first_take {l : List It} {i : Nat} {r : Int} (hi : i < l.length) (h : FirstIs (l.take i) (l.getD i noI) r) : 0 ≤ r ↔ DupAt l i := by
  have hl : (l.take i).length = i := by rw [List.length_take]; omega
  have hg : ∀ j, j < i → (l.take i).getD j noI = l.getD j noI := fun j hj => by simp [List.getD_eq_getElem?_getD, hj]
  rcases h with ⟨rfl, h⟩ | ⟨j, rfl, hj, he, _⟩
  · refine ⟨fun h0 => absurd h0 (by omega), fun ⟨j, hj, e⟩ => ?_⟩
    exact absurd ((hg j hj).trans e) (h j (by omega))
  · rw [hl] at hj
    exact ⟨fun _ => ⟨j, hj, (hg j hj).symm.trans he⟩, fun _ => by omega⟩
theorem eql_no {w' : World} {x y : It} {X Y : Operand} (h : x ≠ y) :
    (do eqGuard .eql 56 X Y (.agg #[.int .i64 x.n, .int .i64 x.d, .string x.t]) (.agg #[.int .i64 y.n, .int .i64 y.d, .string y.t]); binOp .eql 56 (.agg #[.int .i64 x.n, .int .i64 x.d, .string x.t]) (.agg #[.int .i64 y.n, .int .i64 y.d, .string y.t]) : Sem Value).run Tryd.prog w' = .ok (.bool false) w' := by
  obtain ⟨xn, xd, xt⟩ := x
  obtain ⟨yn, yd, yt⟩ := y
  have hm : Tryd.prog.eqGuardType Tryd.prog.depth 56 = false := by kernel_rfl
  rw [Sem.run_bind, run_eqGuard_agg (hm := hm)]
  show (binOp .eql 56 _ _).run Tryd.prog w' = _
  rw [run_eql_struct]
  by_cases h0 : xn = yn
  · subst h0
    by_cases h1 : xd = yd
    · subst h1
      have h2 : ¬ xt.toList = yt.toList := fun e => h (by rw [toList_inj e])
      simp [go_sem, h2]
    · simp [go_sem, h1]
  · simp [go_sem, h0]
section
variable {ops : Array Oper} {Q : Exit → Act → World → Prop} {S : World → Prop}
variable {r : List (Nat × Bool)} {a : Act} {e : List (Nat × Value)} {w : World} {i d : Nat} {g : Option (Nat × Bool)}
/-- A slice up to an element. -/
theorem run_upto {x y : Operand} {b off n c k : Nat} (ho : opAt ops i = some (some d, .slice 28 x none (some y) none, g)) (hd : Nat.blt d a.tmps.size = true) (hw : wantE ops a e g = some true)
    (hx : lookO a e x = .slice (some ⟨b, off, none⟩) n c) (hy : lookO a e y = .int .i64 (k : Int)) (hk : k < n) (hc : n ≤ c)
    (h : RunE Tryd.prog ops Q S r a ((d, .slice (some ⟨b, off, none⟩) k c) :: e) w) : RunE Tryd.prog ops Q S ((i, true) :: r) a e w :=
  run_yield ho hd hw (fun o w' h1 _ => by
    unfold execOp; rw [h1]
    simp only [hx, Option.map_some, Option.map_none, hy]
    refine run_v ?_
    obtain ⟨ie, hie, _, hsz, _⟩ := info_parts infoItm3
    have he : Tryd.prog.elem 28 = 56 := by kernel_rfl
    have hie0 := hie
    rw [← he] at hie
    have hu : Tryd.prog.underlying 28 = some (.slice (Tryd.prog.elem 28)) := by kernel_rfl
    rw [run_sliceAt_slice (h := hu), run_slice_any (ht := hu)]
    have e1 : (Instr.sliceBounds true n c none (some (.int .i64 (k : Int))) none).run Tryd.prog w' = .ok (0, k, c) w' := by
      have e0 : (Instr.sliceBound (.int .i64 (k : Int)) c .sliceAcap).run Tryd.prog w' = .ok k w' := run_sliceBound w' .i64 (k : Int) c _ (by omega) (by omega)
      simp [Instr.sliceBounds, e0]
    rw [e1]
    simp only [Result.andThen_ok, sizeOf, typeInfo]
    simp [go_sem, sliced, hie0]) h
theorem run_min2 {P : Program} {S : World → Prop} {x y : Operand} {ats : Array TypeId} {p q z : Int} (ho : opAt ops i = some (some d, .call { callee := .builtin .min, args := [x, y].toArray, argTypes := ats }, g)) (hd : Nat.blt d a.tmps.size = true)
    (hw : wantE ops a e g = some true) (hx : lookO a e x = .int .i64 p) (hy : lookO a e y = .int .i64 q) (hz : (if q < p then q else p) = z)
    (h : RunE P ops Q S r a ((d, .int .i64 z) :: e) w) : RunE P ops Q S ((i, true) :: r) a e w :=
  run_yield ho hd hw (fun o w' h1 _ => by
    unfold execOp; rw [h1]
    have hx' : [x, y].toArray.map (lookO a e) = #[.int .i64 p, .int .i64 q] := by simp [hx, hy]
    have key : ∀ cs, (builtin .min ats o.type cs ([x, y].toArray.map (lookO a e))).run P w' = .ok (.value (.int .i64 z)) w' := fun cs => by
      rw [hx']
      show (do pure (.value (← Builtin.min_ ats o.type #[.int .i64 p, .int .i64 q])) : Sem Next).run P w' = _
      refine run_v ?_
      rw [run_min_int2, hz]
    exact key #[]) h
end
theorem ItemsAt.take {lo hi : Nat} {w : World} {a : Option Addr} {l : List It} (h : ItemsAt lo hi w a l) (k : Nat) : ItemsAt lo hi w a (l.take k) := fun i x hx => by
  rw [List.getElem?_take] at hx
  split at hx
  · exact h i x hx
  · cases hx
theorem implAtN (kk : Int) (a1 a2 a3 a4 a5 : Option Addr) (n1 m1 n2 m2 n3 m3 n4 m4 n5 m5 : Nat) (code env : Int) (w : World) :
    Calls Tryd.prog 66 #[.agg #[.int .i64 kk, .slice a1 n1 m1, .slice a2 n2 m2, .slice a3 n3 m3, .slice a4 n4 m4, .slice a5 n5 m5, .int .i64 code, .int .i64 env]] w fun e w' => e = .returned (.bool (decide (kk ≤ 3))) ∧ Below w.heap.size w w' := by
  go_enter Tryd.func66, Tryd.ntmps66
  go_wp2
  go_ret
  exact ⟨rfl, below1 w _⟩
set_option maxHeartbeats 2000000 in
/-- problemOfAtomics of a list of one vector. -/
theorem implAtm1 (d : Nat) (kk : Int) (items : List It) (parts : List Vec) (names cls levels : List ByteArray) (code env : Int) (ai ap an ac al : Option Addr) (ci cp cn cc cl g lo hi : Nat) (w : World) (hv : VecAt lo hi w d (.mk kk items parts names cls levels code env) (.agg #[.int .i64 kk, .slice ai items.length ci, .slice ap parts.length cp, .slice an names.length cn, .slice ac cls.length cc, .slice al levels.length cl, .int .i64 code, .int .i64 env])) (hhi : hi ≤ w.heap.size) (hsm : Small d (.mk kk items parts names cls levels code env))
    (hg : w.heap[g]? = some (.cells #[.int .i64 kk, .slice ai items.length ci, .slice ap parts.length cp, .slice an names.length cn, .slice ac cls.length cc, .slice al levels.length cl, .int .i64 code, .int .i64 env] 31 (0, 0))) :
    Calls Tryd.prog 34 #[.slice (some ⟨g, 0, none⟩) 1 1] w fun e w' => e = .returned (.string (atmS (.mk kk items parts names cls levels code env))) ∧ Below w.heap.size w w' := by
  have CA := Lib.hid (fun (w1 : World) (hb : Below w.heap.size w w1) => implIsVector d _ _ lo hi w1 (hv.below hb hhi) (Nat.le_trans hhi hb.size) hsm)
  have KG := Lib.hid hg
  have XK : kindV (.mk kk items parts names cls levels code env) = kk := rfl
  obtain ⟨VV, hVV⟩ : ∃ V, Vec.mk kk items parts names cls levels code env = V := ⟨_, rfl⟩
  rw [hVV] at CA XK ⊢
  clear hv hsm hg hVV
  go_enter Tryd.func34, Tryd.ntmps34
  go_wp2
  go_loopw [7] (fun i wr => ∃ k : Nat, k ≤ 1 ∧ i = .int .i64 k ∧ (0 < k → atmS VV = ⟨#[]⟩) ∧ Below w.heap.size w wr) (fun i _ => 1 - (intOf i).toNat)
  case atStart => exact ⟨0, by omega, rfl, fun h => absurd h (by omega), Below.refl _ _⟩
  case round =>
    obtain ⟨k, hk, rfl, ha, hbw⟩ := hrel
    have BW := Lib.hid hbw
    have KGW := Lib.hid (blk_below hbw KG.out)
    have PA := Lib.hid ha
    clear hbw ha
    have hgr := (Array.getElem?_eq_some_iff.1 KGW.out).1
    rcases (show k = 0 ∨ k = 1 by omega) with rfl | rfl
    · obtain ⟨g0, g1, g2, g3, g4, g5, g6, g7⟩ := vec8 KGW.out
      go_wp2_with fail
      with_reducible refine (CA.out _ (BW.out.alloc BW.out.size _)).mono ?_
      rintro e w' ⟨rfl, b'⟩
      have BN := Lib.hid ((BW.out.alloc BW.out.size (.cells #[.int .i64 kk, .slice ai items.length ci, .slice ap parts.length cp, .slice an names.length cn, .slice ac cls.length cc, .slice al levels.length cl, .int .i64 code, .int .i64 env] 31)).trans (b'.mono (by have := BW.out.size; simp; omega)))
      have KV := Lib.hid (blk_below b' (blk_new wr (.cells #[.int .i64 kk, .slice ai items.length ci, .slice ap parts.length cp, .slice an names.length cn, .slice ac cls.length cc, .slice al levels.length cl, .int .i64 code, .int .i64 env] 31) rfl))
      clear b' g0 g1 g2 g3 g4 g5 g6 g7
      obtain ⟨g0, g1, g2, g3, g4, g5, g6, g7⟩ := vec8 KV.out
      by_cases q : ValidV VV
      · rw [bB_yes q]
        by_cases hk3 : kk ≤ 3
        · have Q := Lib.hid (atmS_yes q (by rw [XK]; exact hk3))
          have CN := Lib.hid (fun W => (by have h := implAtN kk ai ap an ac al items.length ci parts.length cp names.length cn cls.length cc levels.length cl code env W; rw [decide_eq_true hk3] at h; exact h : Calls Tryd.prog 66 #[.agg #[.int .i64 kk, .slice ai items.length ci, .slice ap parts.length cp, .slice an names.length cn, .slice ac cls.length cc, .slice al levels.length cl, .int .i64 code, .int .i64 env]] W (fun e w' => e = .returned (.bool true) ∧ Below W.heap.size W w')))
          clear q XK hk3
          go_wp2_with fail
          with_reducible refine (CN.out _).mono ?_
          rintro e w3 ⟨rfl, b⟩
          have B3 := Lib.hid (below_then BN.out b)
          clear b
          go_wp2
          go_roundw
          case rel => exact ⟨1, by omega, by go_num, fun _ => Q.out, B3.out⟩
          case measure => simp [intOf]
        · have Q := Lib.hid (atmS_non q (by rw [XK]; exact hk3))
          have CN := Lib.hid (fun W => (by have h := implAtN kk ai ap an ac al items.length ci parts.length cp names.length cn cls.length cc levels.length cl code env W; rw [decide_eq_false hk3] at h; exact h : Calls Tryd.prog 66 #[.agg #[.int .i64 kk, .slice ai items.length ci, .slice ap parts.length cp, .slice an names.length cn, .slice ac cls.length cc, .slice al levels.length cl, .int .i64 code, .int .i64 env]] W (fun e w' => e = .returned (.bool false) ∧ Below W.heap.size W w')))
          clear q XK hk3
          go_wp2_with fail
          with_reducible refine (CN.out _).mono ?_
          rintro e w3 ⟨rfl, b⟩
          have B3 := Lib.hid (below_then BN.out b)
          clear b
          go_wp2
          go_ret
          exact ⟨by rw [Q.out]; rfl, B3.out⟩
      · rw [bB_no q]
        have X := Lib.hid (atmS_bad q)
        clear q XK
        go_wp2
        go_ret
        exact ⟨by rw [X.out]; rfl, BN.out⟩
    · have X := Lib.hid (PA.out (by omega))
      go_wp2
      go_ret
      exact ⟨by rw [X.out]; rfl, BW.out⟩
set_option maxHeartbeats 1000000 in
theorem specAtm (d : Nat) (v : Vec) (val : Value) (lo hi : Nat) (w : World) (hv : VecAt lo hi w d v val) (hhi : hi ≤ w.heap.size) (hsm : Small d v) :
    Calls Tryd.prog 29 #[val] w fun e w' => e = .returned (.string (atmS v)) ∧ Below w.heap.size w w' := by
  have C1 := Lib.hid (fun (w1 : World) (hb : Below w.heap.size w w1) => specIsVector d v val lo hi w1 (hv.below hb hhi) (Nat.le_trans hhi hb.size) hsm)
  obtain ⟨VV, hVV⟩ : ∃ V, v = V := ⟨_, rfl⟩
  rw [hVV] at C1 ⊢
  obtain ⟨kk, items, parts, names, cls, levels, code, env⟩ := v
  obtain ⟨d', ai, ci, ap, cp, an, cn, ac, cc, al, cl, ed, rfl, hI, hN, hC, hL, hP⟩ := vecAt_open hv
  have XK : kindV VV = kk := by rw [← hVV]; rfl
  clear hv hI hN hC hL hP hsm ed hVV
  go_enter Tryd.func29, Tryd.ntmps29
  go_wp2_with fail
  obtain ⟨w1, hw1⟩ : ∃ W, w.alloc (.cells #[.int .i64 kk, .slice ai items.length ci, .slice ap parts.length cp, .slice an names.length cn, .slice ac cls.length cc, .slice al levels.length cl, .int .i64 code, .int .i64 env] 31) = W := ⟨_, rfl⟩
  have B1 := Lib.hid (show Below w.heap.size w w1 from hw1 ▸ below1 w _)
  have KA := Lib.hid (show w1.heap[w.heap.size]? = some (.cells #[.int .i64 kk, .slice ai items.length ci, .slice ap parts.length cp, .slice an names.length cn, .slice ac cls.length cc, .slice al levels.length cl, .int .i64 code, .int .i64 env] 31 (0, 0)) from hw1 ▸ blk_new w _ rfl)
  rw [hw1]
  clear hw1
  with_reducible refine (C1.out _ B1.out).mono ?_
  rintro e w2 ⟨rfl, b⟩
  have B2 := Lib.hid (below_then B1.out b)
  have KA2 := Lib.hid (blk_below b KA.out)
  clear b
  obtain ⟨k0, k1, k2, k3, k4, k5, k6, k7⟩ := vec8 KA2.out
  by_cases q : ValidV VV
  · rw [bB_yes q]
    by_cases hk3 : kk ≤ 3
    · have Q := Lib.hid (atmS_yes q (by rw [XK]; exact hk3))
      clear q XK
      go_wp2
      go_ret
      exact ⟨by rw [Q.out]; rfl, B2.out⟩
    · have Q := Lib.hid (atmS_non q (by rw [XK]; exact hk3))
      have hk4 : 4 ≤ kk := by omega
      clear q XK hk3
      go_wp2
      go_ret
      exact ⟨by rw [Q.out]; rfl, B2.out⟩
  · rw [bB_no q]
    have X := Lib.hid (atmS_bad q)
    clear q XK
    go_wp2
    go_ret
    exact ⟨by rw [X.out]; rfl, B2.out⟩
end Go.Proofs.YtjpdnabfpiengaaDoor

/- The implicit class of a vector, both sides. -/
namespace Go.Proofs.YtjpdnabfpiengaaDoor
open Go.RowKit
set_option maxRecDepth 100000
set_option linter.unusedVariables false

def nameB (k : Int) : ByteArray := if k = 0 then ⟨#[78, 85, 76, 76]⟩ else if k = 1 then ⟨#[108, 111, 103, 105, 99, 97, 108]⟩ else if k = 2 then ⟨#[110, 117, 109, 101, 114, 105, 99]⟩ else if k = 3 then ⟨#[99, 104, 97, 114, 97, 99, 116, 101, 114]⟩ else if k = 4 then ⟨#[108, 105, 115, 116]⟩ else ⟨#[102, 117, 110, 99, 116, 105, 111, 110]⟩
noncomputable def clsV (v : Vec) : List ByteArray := match bB (ValidV v), v with
  | true, .mk k _ _ _ cls _ _ _ => if cls.length = 0 then [nameB k] else cls
  | false, _ => []
theorem cls_no {v : Vec} (h : ¬ ValidV v) : clsV v = [] := by unfold clsV; rw [bB_no h]
theorem cls_own {k : Int} {items : List It} {parts : List Vec} {names cls levels : List ByteArray} {code env : Int} (h : ValidV (.mk k items parts names cls levels code env)) (hc : 0 < cls.length) : clsV (.mk k items parts names cls levels code env) = cls := by
  unfold clsV; rw [bB_yes h]; simp only; rw [if_neg (by omega)]
theorem cls_name {k : Int} {items : List It} {parts : List Vec} {names cls levels : List ByteArray} {code env : Int} (h : ValidV (.mk k items parts names cls levels code env)) (hc : cls.length = 0) : clsV (.mk k items parts names cls levels code env) = [nameB k] := by
  unfold clsV; rw [bB_yes h]; simp only; rw [if_pos hc]
theorem one_own {w : World} {g : Nat} {s : ByteArray} {fr : Nat × Nat} (h : w.heap[g]? = some (.cells #[.string s] 9 (0, 0))) : OwnTxs w (some ⟨g, 0, none⟩) [s] [g] :=
  .inr ⟨g, #[.string s], rfl, rfl, h, Nat.le_refl _, fun i hi => by
    have : i = 0 := by simp at hi; omega
    subst this; rfl⟩
/-- What both sides answer: a list of texts in a block of its own. -/
def ClassAns (v : Vec) (w : World) (e : Ending) (w' : World) : Prop := ∃ a c F, e = .returned (.slice a (clsV v).length c) ∧ OwnTxs w' a (clsV v) F ∧ F.Nodup ∧ (∀ b ∈ F, w.heap.size ≤ b ∧ b < w'.heap.size) ∧ Below w.heap.size w w'
end Go.Proofs.YtjpdnabfpiengaaDoor

/- Lemmas for laws whose result lies in memory. -/
namespace Go.Proofs.YtjpdnabfpiengaaDoor
open Go.RowKit
set_option maxRecDepth 100000
set_option linter.unusedVariables false

theorem eqTxB (l : List ByteArray) (a b : Option Addr) (ca cb lo hi lo' hi' : Nat) (w : World) (ha : TextsAt lo hi w a l) (hb : TextsAt lo' hi' w b l) (hn : l.length ≤ 1048576) :
    Calls Tryd.prog 23 #[.slice a l.length ca, .slice b l.length cb] w fun e w' => e = .returned (.bool true) ∧ Below w.heap.size w w' := by
  refine (eqStrs a b l.length ca cb (txtS l) (txtS l) (max hi hi') w (ha.strs.mono (Nat.le_max_left _ _)) (hb.strs.mono (Nat.le_max_right _ _)) (by omega) (fun _ _ => rfl)).mono ?_
  rintro e w' ⟨rfl, m, rfl⟩
  exact ⟨rfl, below_drewN' (Below.refl _ _) m⟩
theorem sumN_le2 {f g : Nat → Nat} {n : Nat} (h : ∀ i, i < n → f i ≤ 3 * g i + 3) : sumN f n ≤ 3 * sumN g n + 3 * n := by
  induction n with
  | zero => simp [sumN]
  | succ n ih =>
    have h1 := ih (fun i hi => h i (by omega))
    have h2 := h n (by omega)
    simp only [sumN]
    omega
theorem cntM_le : ∀ (d : Nat) (v : Vec), cntM d v ≤ 3 * wV d v
  | 0, v => Nat.zero_le _
  | d + 1, .mk k items parts names cls levels code env => by
    rw [cntM_eq]
    have e : wV (d + 1) (.mk k items parts names cls levels code env) = (items.length + sumF (txtI items) items.length) + (parts.length + sumN (fun i => wV d (parts.getD i noV)) parts.length) + (names.length + sumF (txtS names) names.length) + (cls.length + sumF (txtS cls) cls.length) + (levels.length + sumF (txtS levels) levels.length) := rfl
    rw [e]
    have h : cntP d parts parts.length ≤ 3 * sumN (fun i => wV d (parts.getD i noV)) parts.length + 3 * parts.length := sumN_le2 (fun i _ => by have := cntM_le d (parts.getD i noV); omega)
    omega
theorem clsV_len (v : Vec) : (clsV v).length ≤ 3 := by
  by_cases h : ValidV v
  · obtain ⟨k, items, parts, names, cls, levels, code, env⟩ := v
    by_cases hc : 0 < cls.length
    · rw [cls_own h hc]; exact (FlatOk.h_cls h.1.flat).1
    · rw [cls_name h (by omega)]; simp
  · rw [cls_no h]; simp
theorem OwnTxs.texts {w : World} {a : Option Addr} {l : List ByteArray} {F : List Nat} {hi : Nat} (h : OwnTxs w a l F) (hF : ∀ b ∈ F, b < hi) : TextsAt 0 hi w a l := h.at_ (fun b hb => ⟨Nat.zero_le _, hF b hb⟩)
end Go.Proofs.YtjpdnabfpiengaaDoor

/- Laws whose argument is a vector and whose result is one. -/
namespace Go.Proofs.YtjpdnabfpiengaaDoor
open Go.RowKit
set_option maxRecDepth 100000
set_option linter.unusedVariables false

theorem VecAt.agg {lo hi : Nat} {w : World} {d : Nat} {v : Vec} {y : Value} (h : VecAt lo hi w d v y) : ∃ (k : Int) (a1 : Option Addr) (n1 m1 : Nat) (a2 : Option Addr) (n2 m2 : Nat) (a3 : Option Addr) (n3 m3 : Nat) (a4 : Option Addr) (n4 m4 : Nat) (a5 : Option Addr) (n5 m5 : Nat) (code env : Int), y = .agg #[.int .i64 k, .slice a1 n1 m1, .slice a2 n2 m2, .slice a3 n3 m3, .slice a4 n4 m4, .slice a5 n5 m5, .int .i64 code, .int .i64 env] := by
  obtain ⟨k, items, parts, names, cls, levels, code, env⟩ := v
  obtain ⟨d', ai, ci, ap, cp, an, cn, ac, cc, al, cl, ed, e, _⟩ := vecAt_open h
  exact ⟨_, _, _, _, _, _, _, _, _, _, _, _, _, _, _, _, _, _, e⟩
theorem toVecR (d : Nat) (v : Vec) (x : Value) (lo hi : Nat) (w : World) (hv : VecAt lo hi w d v x) (hhi : hi ≤ w.heap.size) (hsm : Small d v) :
    Calls Tryd.prog 9 #[x] w (ResV d v w) := by
  refine ((toAll d).out v x lo hi w hv hhi hsm).mono ?_
  rintro e w' ⟨y, F, rfl, ho, hn, hr, hb⟩
  exact ⟨y, rfl, ⟨F, ho, hn, hr⟩, hb⟩
theorem markOwnX (d : Nat) (V : Vec) (y : Value) (lo hi : Nat) (w : World) (h : Own d V y lo hi w) (hh : hi ≤ w.heap.size) (hs : Small d V) (hc : 1 + cntM d V ≤ 8000000) :
    Calls Tryd.prog 12 #[y, .int .i64 1] w fun e w' => e = .returned (.int .i64 ((1 + cntM d V : Nat) : Int)) ∧ Within lo hi w w' := by
  refine (markOwn d V y lo hi w h hh hs hc).mono ?_
  rintro e w' ⟨rfl, _, t⟩
  exact ⟨rfl, t⟩
/-- The zero value, or a vector of items and names that fit. -/
def PlainN (V : Vec) : Prop := V = noV ∨ ∃ k l names, V = mkN k l names ∧ (-9223372036854775808 ≤ k ∧ k ≤ 9223372036854775807) ∧ l.length ≤ 40 ∧ (∀ x ∈ l, InB x ∧ x.t.size ≤ 1048576) ∧ names.length ≤ 1048576 ∧ ∀ s ∈ names, s.size ≤ 1048576
theorem PlainN.small {V : Vec} (h : PlainN V) : Small 1 V := by
  rcases h with rfl | ⟨k, l, names, rfl, hk, hl, hx, hn, hs⟩
  · exact small_noV
  · exact small_mkN (by omega) (fun x h => (hx x h).2) hn hs
theorem PlainN.fits {V : Vec} (h : PlainN V) : Fits 1 V := by
  rcases h with rfl | ⟨k, l, names, rfl, hk, hl, hx, hn, hs⟩
  · exact fits_noV
  · exact fits_mkN hk (by omega) (fun x h => (hx x h).1) hn hs
theorem PlainN.cnt {V : Vec} (h : PlainN V) : 1 + cntM 1 V ≤ 8000000 := by
  rcases h with rfl | ⟨k, l, names, rfl, hk, hl, hx, hn, hs⟩
  · rw [cnt_noV]; omega
  · rw [cnt_mkN]; omega
end Go.Proofs.YtjpdnabfpiengaaDoor

/- Rows of vectors that a call builds by append. -/
namespace Go.Proofs.YtjpdnabfpiengaaDoor
open Go.RowKit
set_option maxRecDepth 100000
set_option linter.unusedVariables false

def cl8 : Value → List Value
  | .agg cs => cs.toList
  | _ => []
def Is8 (v : Value) : Prop := ∃ c0 c1 c2 c3 c4 c5 c6 c7, v = .agg #[c0, c1, c2, c3, c4, c5, c6, c7]
theorem OwnVec.is8 {w : World} {d : Nat} {v : Vec} {y : Value} {F : List Nat} (h : OwnVec w d v y F) : Is8 y := by
  obtain ⟨k, a1, n1, m1, a2, n2, m2, a3, n3, m3, a4, n4, m4, a5, n5, m5, code, env, rfl⟩ := h.agg
  exact ⟨_, _, _, _, _, _, _, _, rfl⟩
theorem flat8_len : ∀ vals : List Value, (∀ v ∈ vals, Is8 v) → (vals.flatMap cl8).length = vals.length * 8
  | [], _ => rfl
  | v :: vals, h => by
    obtain ⟨c0, c1, c2, c3, c4, c5, c6, c7, rfl⟩ := h v (List.mem_cons_self ..)
    have := flat8_len vals (fun x hx => h x (List.mem_cons_of_mem _ hx))
    simp only [List.flatMap_cons, List.length_append, this, cl8, List.length_cons, List.length_nil]
    omega
theorem flat8_at : ∀ (vals : List Value), (∀ v ∈ vals, Is8 v) → ∀ i, i < vals.length → ∃ c0 c1 c2 c3 c4 c5 c6 c7, vals.getD i undef = .agg #[c0, c1, c2, c3, c4, c5, c6, c7] ∧
    (vals.flatMap cl8)[i * 8]? = some c0 ∧ (vals.flatMap cl8)[i * 8 + 1]? = some c1 ∧ (vals.flatMap cl8)[i * 8 + 2]? = some c2 ∧ (vals.flatMap cl8)[i * 8 + 3]? = some c3 ∧ (vals.flatMap cl8)[i * 8 + 4]? = some c4 ∧ (vals.flatMap cl8)[i * 8 + 5]? = some c5 ∧ (vals.flatMap cl8)[i * 8 + 6]? = some c6 ∧ (vals.flatMap cl8)[i * 8 + 7]? = some c7
  | [], _, _, h => by cases h
  | v :: vals, h, 0, _ => by
    obtain ⟨c0, c1, c2, c3, c4, c5, c6, c7, rfl⟩ := h v (List.mem_cons_self ..)
    exact ⟨c0, c1, c2, c3, c4, c5, c6, c7, rfl, rfl, rfl, rfl, rfl, rfl, rfl, rfl, rfl⟩
  | v :: vals, h, i + 1, hi => by
    obtain ⟨d0, d1, d2, d3, d4, d5, d6, d7, rfl⟩ := h v (List.mem_cons_self ..)
    obtain ⟨c0, c1, c2, c3, c4, c5, c6, c7, e, m⟩ := flat8_at vals (fun x hx => h x (List.mem_cons_of_mem _ hx)) i (by simpa using hi)
    refine ⟨c0, c1, c2, c3, c4, c5, c6, c7, by simpa using e, ?_⟩
    have key : ∀ j, ((Value.agg #[d0, d1, d2, d3, d4, d5, d6, d7] :: vals).flatMap cl8)[(i + 1) * 8 + j]? = (vals.flatMap cl8)[i * 8 + j]? := fun j => by
      have e1 : (i + 1) * 8 + j = (i * 8 + j) + 8 := by omega
      rw [e1]; rfl
    have k0 := key 0
    simp only [Nat.add_zero] at k0
    rw [k0, key 1, key 2, key 3, key 4, key 5, key 6, key 7]
    exact m
/-- A slice of vectors, each with its own blocks. -/
def OwnParts (w : World) (d : Nat) (v : Value) (parts : List Vec) (F : List Nat) : Prop := ∃ ap cp, v = .slice ap parts.length cp ∧ parts.length ≤ cp ∧
  ((parts = [] ∧ F = []) ∨ ∃ b C, ∃ Fs : List (List Nat), F = b :: Fs.flatten ∧ Fs.length = parts.length ∧ ap = some ⟨b, 0, none⟩ ∧ w.heap[b]? = some (.cells C 31 (0, 0)) ∧ parts.length * 8 ≤ C.size ∧
    ∀ i, i < parts.length → ∃ val, OwnVec w d (parts.getD i noV) val (Fs.getD i []) ∧ Eight C i val)
/-- What a loop that appends vectors keeps. -/
structure RowV (w wr : World) (d : Nat) (parts : List Vec) (k : Nat) (v : Value) : Prop where
  ex : ∃ (vals : List Value) (Fs : List (List Nat)), vals.length = k ∧ Fs.length = k ∧ wr.ownsRow w.heap.size 31 8 v k (vals.flatMap cl8) ∧
    (∀ i, i < k → OwnVec wr d (parts.getD i noV) (vals.getD i undef) (Fs.getD i [])) ∧ Fs.flatten.Nodup ∧ (∀ b ∈ Fs.flatten, w.heap.size ≤ b ∧ b < wr.heap.size ∧ v.ownBlock ≠ some b)
  below : Below w.heap.size w wr
theorem RowV.start (w : World) (d : Nat) (parts : List Vec) : RowV w w d parts 0 (.slice none 0 0) :=
  ⟨⟨[], [], rfl, rfl, ⟨rfl, .inl ⟨rfl, rfl⟩⟩, fun i h => absurd h (Nat.not_lt_zero _), List.nodup_nil, fun b h => by cases h⟩, Below.refl _ _⟩
theorem RowV.is8 {vals : List Value} {k d : Nat} {parts : List Vec} {Fs : List (List Nat)} {wr : World} (hl : vals.length = k) (h : ∀ i, i < k → OwnVec wr d (parts.getD i noV) (vals.getD i undef) (Fs.getD i [])) : ∀ v ∈ vals, Is8 v := by
  intro v hv
  obtain ⟨i, hi, e⟩ := mem_getD (z := undef) hv
  rw [← e]
  exact (h i (by omega)).is8
theorem RowV.row {w wr : World} {d k : Nat} {parts : List Vec} {v : Value} (h : RowV w wr d parts k v) : ∃ xs, wr.ownsRow w.heap.size 31 8 v k xs := by
  obtain ⟨vals, Fs, _, _, hr, _⟩ := h.ex
  exact ⟨_, hr⟩
/-- Behind the copy of an element and the slice of one. -/
theorem RowV.keep {w wr w1 : World} {d k : Nat} {parts : List Vec} {v : Value} (h : RowV w wr d parts k v) (hb : Below wr.heap.size wr w1) : RowV w w1 d parts k v := by
  obtain ⟨vals, Fs, h1, h2, h3, h4, h5, h6⟩ := h.ex
  exact ⟨⟨vals, Fs, h1, h2, ownsRow_below h3 hb, fun i hi => (h4 i hi).kept _ _ _ _ (fun b hb' => hb.block b (h6 b (mem_flat (by omega) hb')).2.1), h5, fun b hb' => ⟨(h6 b hb').1, Nat.lt_of_lt_of_le (h6 b hb').2.1 hb.size, (h6 b hb').2.2⟩⟩, below_then h.below hb⟩
theorem RowV.next {w wr w1 w2 : World} {d k : Nat} {parts : List Vec} {v v' : Value} {c0 c1 c2 c3 c4 c5 c6 c7 : Value} {s1 : Nat} (h : RowV w wr d parts k v) (ho : Own d (parts.getD k noV) (.agg #[c0, c1, c2, c3, c4, c5, c6, c7]) s1 w1.heap.size w1) (hs : wr.heap.size ≤ s1) (hb : Below wr.heap.size wr w1)
    (hg : (w1.alloc (.cells #[c0, c1, c2, c3, c4, c5, c6, c7] 31)).grownBy w2 v.ownBlock) (hr : ∀ xs, wr.ownsRow w.heap.size 31 8 v k xs → w2.ownsRow w.heap.size 31 8 v' (k + 1) (xs ++ [c0, c1, c2, c3, c4, c5, c6, c7])) (hv : v'.ownBlock = v.ownBlock ∨ v'.ownBlock = some (w1.alloc (.cells #[c0, c1, c2, c3, c4, c5, c6, c7] 31)).heap.size) : RowV w w2 d parts (k + 1) v' := by
  obtain ⟨vals, Fs, h1, h2, h3, h4, h5, h6⟩ := h.ex
  obtain ⟨F, g1, g2, g3⟩ := ho.out
  have hsz : (w1.alloc (.cells #[c0, c1, c2, c3, c4, c5, c6, c7] 31)).heap.size = w1.heap.size + 1 := by simp
  have hbs := hb.size
  have hown : ∀ j, v.ownBlock = some j → w.heap.size ≤ j ∧ j < wr.heap.size := h3.lt
  have keep : ∀ b, b < w1.heap.size → v.ownBlock ≠ some b → w2.heap[b]? = w1.heap[b]? := fun b hb1 hb2 => (hg.block b (by omega) (fun e => hb2 e.symm)).trans ((below1 w1 _).block b hb1)
  have old : ∀ b ∈ Fs.flatten, w2.heap[b]? = wr.heap[b]? := fun b hb' => (keep b (by have := h6 b hb'; omega) (h6 b hb').2.2).trans (hb.block b (h6 b hb').2.1)
  have new : ∀ b ∈ F, w2.heap[b]? = w1.heap[b]? := fun b hb' => keep b (g3 b hb').2 (fun e => by have := hown b e; have := g3 b hb'; omega)
  refine ⟨⟨vals ++ [Value.agg #[c0, c1, c2, c3, c4, c5, c6, c7]], Fs ++ [F], by simp [h1], by simp [h2], ?_, fun i hi => ?_, ?_, fun b hb' => ?_⟩, ?_⟩
  · have := hr _ h3
    rw [List.flatMap_append]
    exact this
  · by_cases e : i = k
    · subst e
      have e1 : (vals ++ [Value.agg #[c0, c1, c2, c3, c4, c5, c6, c7]]).getD i undef = .agg #[c0, c1, c2, c3, c4, c5, c6, c7] := by rw [List.getD_eq_getElem?_getD, List.getElem?_append_right (by omega)]; simp [h1]
      have e2 : (Fs ++ [F]).getD i [] = F := by rw [List.getD_eq_getElem?_getD, List.getElem?_append_right (by omega)]; simp [h2]
      rw [e1, e2]
      exact g1.kept _ _ _ _ new
    · have e1 : (vals ++ [Value.agg #[c0, c1, c2, c3, c4, c5, c6, c7]]).getD i undef = vals.getD i undef := by rw [List.getD_eq_getElem?_getD, List.getD_eq_getElem?_getD, List.getElem?_append_left (by omega)]
      have e2 : (Fs ++ [F]).getD i [] = Fs.getD i [] := by rw [List.getD_eq_getElem?_getD, List.getD_eq_getElem?_getD, List.getElem?_append_left (by omega)]
      rw [e1, e2]
      exact (h4 i (by omega)).kept _ _ _ _ (fun b hb' => old b (mem_flat (by omega) hb'))
  · rw [List.flatten_append, List.nodup_append]
    refine ⟨h5, by simpa using g2, fun x hx y hy e => ?_⟩
    have h7 := h6 x hx
    have h8 := g3 y (by simpa using hy)
    omega
  · have hw2 := hg.size
    rw [List.flatten_append, List.mem_append] at hb'
    rcases hb' with hb' | hb'
    · have h7 := h6 b hb'
      refine ⟨h7.1, by omega, fun e => ?_⟩
      rcases hv with hv | hv
      · exact h7.2.2 (hv ▸ e)
      · rw [e, hsz] at hv; have := Option.some.inj hv; omega
    · have hb'' : b ∈ F := by simpa using hb'
      have h7 := g3 b hb''
      have h8 := h.below.size
      refine ⟨by omega, by omega, fun e => ?_⟩
      rcases hv with hv | hv
      · have := hown b (hv ▸ e); omega
      · rw [e, hsz] at hv; have := Option.some.inj hv; omega
  · have h8 := h.below.size
    exact ((below_then h.below hb).alloc (by omega) _).grown hg (by omega) (fun r hr' => (hown r hr').1)
theorem RowV.parts {w wr : World} {d : Nat} {parts : List Vec} {v : Value} (h : RowV w wr d parts parts.length v) : ∃ F, OwnParts wr d v parts F ∧ F.Nodup ∧ ∀ b ∈ F, w.heap.size ≤ b ∧ b < wr.heap.size := by
  obtain ⟨vals, Fs, h1, h2, ⟨hl, h3⟩, h4, h5, h6⟩ := h.ex
  rcases h3 with ⟨rfl, h0⟩ | ⟨g, cap, cur, rfl, hB, hg, hc, _, hs, ht⟩
  · have hp : parts = [] := List.eq_nil_of_length_eq_zero h0
    subst hp
    exact ⟨[], ⟨none, 0, rfl, Nat.le_refl _, .inl ⟨rfl, rfl⟩⟩, List.nodup_nil, fun _ hb => by cases hb⟩
  · have hgl := (Array.getElem?_eq_some_iff.1 hg).1
    refine ⟨g :: Fs.flatten, ⟨_, cap, rfl, hc, .inr ⟨g, cur, Fs, rfl, h2, rfl, hg, by omega, fun i hi => ⟨_, h4 i hi, ?_⟩⟩⟩, ?_, ?_⟩
    · obtain ⟨c0, c1, c2, c3, c4, c5, c6, c7, e, m0, m1, m2, m3, m4, m5, m6, m7⟩ := flat8_at vals (RowV.is8 h1 h4) i (by omega)
      have key : ∀ j, j < parts.length * 8 → cur[j]? = (vals.flatMap cl8)[j]? := fun j hj => by
        rw [← ht, List.getElem?_take_of_lt hj, Array.getElem?_toList]
      refine ⟨c0, c1, c2, c3, c4, c5, c6, c7, e, ?_, ?_, ?_, ?_, ?_, ?_, ?_, ?_⟩
      · rw [key _ (by omega)]; exact m0
      · rw [key _ (by omega)]; exact m1
      · rw [key _ (by omega)]; exact m2
      · rw [key _ (by omega)]; exact m3
      · rw [key _ (by omega)]; exact m4
      · rw [key _ (by omega)]; exact m5
      · rw [key _ (by omega)]; exact m6
      · rw [key _ (by omega)]; exact m7
    · rw [List.nodup_cons]
      exact ⟨fun hm => (h6 g hm).2.2 rfl, h5⟩
    · intro b hb
      rcases List.mem_cons.1 hb with rfl | hb
      · exact ⟨hB, hgl⟩
      · exact ⟨(h6 b hb).1, (h6 b hb).2.1⟩
end Go.Proofs.YtjpdnabfpiengaaDoor

/- The program's copies of vectors. -/
namespace Go.Proofs.YtjpdnabfpiengaaDoor
open Go.RowKit
set_option maxRecDepth 100000
set_option linter.unusedVariables false

theorem OwnParts.kept {w w1 : World} {d : Nat} {v : Value} {parts : List Vec} {F : List Nat} (h : OwnParts w d v parts F) (k : ∀ b ∈ F, w1.heap[b]? = w.heap[b]?) : OwnParts w1 d v parts F := by
  obtain ⟨ap, cp, e, hc, h⟩ := h
  refine ⟨ap, cp, e, hc, h.imp id ?_⟩
  rintro ⟨b, C, Fs, rfl, hl, ea, hb, hn, hp⟩
  exact ⟨b, C, Fs, rfl, hl, ea, (k b (by simp)).trans hb, hn, fun i hi => by
    obtain ⟨val, hv, m⟩ := hp i hi
    exact ⟨val, hv.kept _ _ _ _ (fun b' hb' => k b' (by have := mem_flat (by omega) hb'; simp only [List.mem_cons]; exact .inr this)), m⟩⟩
theorem ownsRow_same {w : World} {base : Nat} {el : TypeId} {size n : Nat} {v : Value} {xs ys : List Value} (h : w.ownsRow base el size v n xs) (k : w.ownsRow base el size v n ys) : xs = ys := by
  obtain ⟨hl, h⟩ := h
  obtain ⟨kl, k⟩ := k
  rcases h with ⟨rfl, h0⟩ | ⟨g, cap, cur, rfl, hB, hg, hc, _, hs, ht⟩
  · subst h0
    have hx : xs = [] := List.eq_nil_of_length_eq_zero (by simpa using hl)
    have hy : ys = [] := List.eq_nil_of_length_eq_zero (by simpa using kl)
    rw [hx, hy]
  · rcases k with ⟨e, _⟩ | ⟨g', cap', cur', e, _, hg', _, _, _, ht'⟩
    · simp at e
    · simp only [Value.slice.injEq, Option.some.injEq, Addr.mk.injEq, and_true, true_and] at e
      obtain ⟨rfl, rfl⟩ := e
      rw [hg] at hg'
      simp only [Option.some.injEq, Obj.cells.injEq, and_true] at hg'
      rw [← ht, ← ht', hg']
/-- A copy of items. -/
def CopyIt (base : Nat) (l : List It) (v : Value) (w : World) : Prop := ∃ sa sc F, v = .slice sa l.length sc ∧ OwnIts w sa l F ∧ F.Nodup ∧ (∀ b ∈ F, base ≤ b ∧ b < w.heap.size) ∧ l.length ≤ sc
theorem run_app0I {w : World} {dst : Value} {ty : TypeId} (hd : dst = .slice none 0 0 ∨ ∃ g, dst = .slice (some ⟨g, 0, none⟩) 0 0) (ad : Option Addr) (c : Nat) :
    (Builtin.append_ #[28, 28] ty #[dst, .slice ad 0 c]).run Tryd.prog w = .ok dst w := by
  obtain ⟨i0, hi0, hz0, hz1, hz2⟩ := info_parts infoItm3
  rcases ad with _ | ad <;> rcases hd with rfl | ⟨g, rfl⟩ <;> simp [Builtin.append_, run_underlying Tryd.underlying28, sizeOf, typeInfo, hi0, Builtin.lenOf, Builtin.firstCells, loadCells, loadCellsFrom, storeCells]
theorem itCells_in {w : World} {lo hi b off : Nat} {l : List It} (h : ItemsAt lo hi w (some ⟨b, off, none⟩) l) : ∀ j u, (itCells l)[j]? = some u → w.cell? ((⟨b, off, none⟩ : Addr).add j) = some u := by
  intro j u hj
  have hlt : j < l.length * 3 := by have := (List.getElem?_eq_some_iff.1 hj).1; rw [itCells_len] at this; exact this
  obtain ⟨i, r, hr, rfl⟩ : ∃ i r, r < 3 ∧ j = i * 3 + r := ⟨j / 3, j % 3, Nat.mod_lt _ (by decide), by omega⟩
  have hi : i < l.length := by omega
  obtain ⟨b', off', e, _, _, c0, c1, c2⟩ := h i _ (List.getElem?_eq_getElem hi)
  simp only [Option.some.injEq, Addr.mk.injEq, and_true] at e
  obtain ⟨rfl, rfl⟩ := e
  obtain ⟨m0, m1, m2⟩ := itCells_at l i hi
  have e1 : l.getD i noI = l[i] := by simp [List.getD_eq_getElem?_getD, List.getElem?_eq_getElem hi]
  unfold txtI at m2
  rw [e1] at m0 m1 m2
  rw [addr_add]
  rcases (show r = 0 ∨ r = 1 ∨ r = 2 by omega) with rfl | rfl | rfl
  · simp only [Nat.add_zero] at hj ⊢
    rw [m0] at hj; rw [c0]; exact hj
  · rw [m1] at hj; rw [← Nat.add_assoc, c1]; exact hj
  · rw [m2] at hj; rw [← Nat.add_assoc, c2]; exact hj
theorem items_some {w : World} {lo hi : Nat} {a : Option Addr} {l : List It} (h : ItemsAt lo hi w a l) (hpos : 0 < l.length) : ∃ b off, a = some ⟨b, off, none⟩ := by
  obtain ⟨b, off, e, _⟩ := h 0 _ (List.getElem?_eq_getElem hpos)
  exact ⟨b, off, e⟩
theorem wpList_copyItems {w : World} {ops : Array Oper} {rest : List Oper} {o : Oper} {a : Act} {Q : Exit → Act → World → Prop} (hgd : o.guard = none) (s x : Operand)
    (ho : o.op = .call { callee := .builtin .append, args := #[s, x], argTypes := #[28, 28] }) (base : Nat) (v0 : Value) (hs : a.eval s = v0)
    (hv0 : v0 = .slice none 0 0 ∨ ∃ g, base ≤ g ∧ v0 = .slice (some ⟨g, 0, none⟩) 0 0 ∧ w.heap[g]? = some (.cells #[] 56 (0, 0)))
    (ad : Option Addr) (c : Nat) (l : List It) (lo hi : Nat) (hx : a.eval x = .slice ad l.length c) (hT : ItemsAt lo hi w ad l) (hn : l.length ≤ 1048576) (hbase : base ≤ w.heap.size)
    (h : ∀ v' w', CopyIt base l v' w' → Below base w w' → wpList Tryd.prog ops Q rest (a.put o.dst v') w') : wpList Tryd.prog ops Q (o :: rest) a w := by
  by_cases hpos : 0 < l.length
  · obtain ⟨b, off, rfl⟩ := items_some hT hpos
    obtain ⟨i0, hi0, hz0, hz1, hz2⟩ := info_parts infoItm3
    have hown : w.ownsRow base 56 3 v0 0 [] := by
      rcases hv0 with rfl | ⟨g, hg, rfl, hb⟩
      · exact ⟨rfl, .inl ⟨rfl, rfl⟩⟩
      · exact ⟨rfl, .inr ⟨g, 0, #[], rfl, hg, hb, Nat.le_refl _, Nat.zero_le _, rfl, rfl⟩⟩
    refine wpList_append_own w hgd s x 28 ho base 56 i0 _ 3 32 Tryd.underlying28 hi0 hz0 hz1 hz2 rfl (by decide) v0 0 [] hs hown ⟨b, off, none⟩ l.length c (itCells l) hx (by rw [itCells_len]) (itCells_in hT) (itCells_one l) (by unfold maxLen; omega) (by omega) hbase (fun v' w' h1 h2 _ => ?_)
    have h1' : w'.ownsRow base 56 3 v' l.length (itCells l) := by simpa using h1
    obtain ⟨sa, c', F, rfl, ho, hn, hr, hc⟩ := own_of_its h1'
    refine h _ _ ⟨_, _, F, rfl, ho, hn, hr, hc⟩ ((Below.refl base w).grown h2 hbase (fun r hr => (hown.lt r hr).1))
  · obtain rfl : l = [] := List.eq_nil_of_length_eq_zero (by omega)
    have hrun := fun ty => run_app0I (w := w) (ty := ty) (hv0.imp id (fun ⟨g, _, e, _⟩ => ⟨g, e⟩)) ad c
    refine wpList_plain hgd fun K hK => ?_
    have hnext := h v0 w (by
      rcases hv0 with rfl | ⟨g, _, rfl, _⟩
      · exact ⟨none, 0, [], rfl, .inl ⟨rfl, rfl⟩, List.nodup_nil, (fun _ h => by cases h), Nat.le_refl _⟩
      · exact ⟨some ⟨g, 0, none⟩, 0, [], rfl, .inl ⟨rfl, rfl⟩, List.nodup_nil, (fun _ h => by cases h), Nat.le_refl _⟩) (Below.refl _ _)
    have hx' : a.eval x = .slice ad 0 c := hx
    unfold Oper.wp
    simp [execOp, ho, resolve, invoke, builtin, hs, hx', hrun, Result.andThen]
    exact hK _ _ hnext
/-- The contracts at depth d: one vector, and a slice of them. -/
structure ICV (d : Nat) : Prop where
  out : ∀ (v : Vec) (val : Value) (lo hi : Nat) (w : World), VecAt lo hi w d v val → hi ≤ w.heap.size → Small d v → Calls Tryd.prog 96 #[val] w (ResV d v w)
def ResP (d : Nat) (parts : List Vec) (w : World) (e : Ending) (w' : World) : Prop := ∃ v F, e = .returned v ∧ OwnParts w' d v parts F ∧ F.Nodup ∧ (∀ b ∈ F, w.heap.size ≤ b ∧ b < w'.heap.size) ∧ Below w.heap.size w w' ∧ ∃ xs, w'.ownsRow w.heap.size 31 8 v parts.length xs
structure ICS (d : Nat) : Prop where
  out : ∀ (parts : List Vec) (a : Option Addr) (c lo hi : Nat) (w : World), VecsAt lo hi w d a parts → hi ≤ w.heap.size → (∀ i, i < parts.length → Small d (parts.getD i noV)) → parts.length ≤ 1048576 → Calls Tryd.prog 97 #[.slice a parts.length c] w (ResP d parts w)
set_option maxHeartbeats 4000000 in
theorem icsStep (d : Nat) (IC : ICV d) : ICS d := by
  refine ⟨fun parts a cap lo hi w hs hhi hsm hn => ?_⟩
  have A := Lib.hid (fun (k : Nat) (w1 : World) (hk : k < parts.length) (hb : Below w.heap.size w w1) => (hs.below hb hhi).at_ hk)
  have C := Lib.hid (fun (k : Nat) (w1 : World) (x : Value) (hk : k < parts.length) (hb : Below w.heap.size w w1) (hv : VecAt lo hi w1 d (parts.getD k noV) x) => IC.out _ x lo hi w1 hv (Nat.le_trans hhi hb.size) (hsm k hk))
  have FIN := Lib.hid (fun (wr : World) (v : Value) (h : RowV w wr d parts parts.length v) => h.parts)
  clear hs hsm IC
  obtain ⟨n, hn'⟩ : ∃ n, parts.length = n := ⟨_, rfl⟩
  have HNn := Lib.hid hn'
  rw [hn'] at hn A C FIN ⊢
  clear hn'
  obtain ⟨i0, hi0, hz0, hz1, hz2⟩ := info_parts infoVec8
  go_enter Tryd.func97, Tryd.ntmps97
  go_wp2
  go_loopw [3, 8] (fun v i wr => ∃ k : Nat, k ≤ n ∧ i = .int .i64 k ∧ RowV w wr d parts k v) (fun _ i _ => n - (intOf i).toNat)
  case atStart => exact ⟨0, Nat.zero_le _, rfl, RowV.start w d parts⟩
  case round =>
    obtain ⟨k, hk, rfl, hr⟩ := hrel
    have RV := Lib.hid hr
    clear hr
    by_cases hlt : k < n
    · obtain ⟨b, off, u0, u1, u2, u3, u4, u5, u6, u7, rfl, hbB, hv, c0, c1, c2, c3, c4, c5, c6, c7⟩ := A.out _ _ hlt RV.out.below
      obtain ⟨pk, pa1, pn1, pm1, pa2, pn2, pm2, pa3, pn3, pm3, pa4, pn4, pm4, pa5, pn5, pm5, pc, pe, e⟩ := hv.agg
      simp only [Value.agg.injEq, Array.mk.injEq, List.cons.injEq, and_true] at e
      obtain ⟨rfl, rfl, rfl, rfl, rfl, rfl, rfl, rfl⟩ := e
      have HV := Lib.hid hv
      have hbw : b < wr.heap.size := Nat.lt_of_lt_of_le (Nat.lt_of_lt_of_le hbB hhi) RV.out.below.size
      clear hv
      go_wp2_with fail
      have b1 := Lib.hid (below1 wr (.cells #[.int .i64 pk, .slice pa1 pn1 pm1, .slice pa2 pn2 pm2, .slice pa3 pn3 pm3, .slice pa4 pn4 pm4, .slice pa5 pn5 pm5, .int .i64 pc, .int .i64 pe] 31))
      with_reducible refine (C.out _ _ _ hlt (below_then RV.out.below b1.out) (HV.out.below b1.out (Nat.le_trans hhi RV.out.below.size))).mono ?_
      rintro e w2 ⟨y, rfl, ho, hb⟩
      obtain ⟨yk, ya1, yn1, ym1, ya2, yn2, ym2, ya3, yn3, ym3, ya4, yn4, ym4, ya5, yn5, ym5, yc, ye, rfl⟩ := ho.agg
      have HO := Lib.hid ho
      have BW := Lib.hid (below_then b1.out hb)
      obtain ⟨xs, hxs⟩ := RV.out.row
      have XS := Lib.hid hxs
      have OR := Lib.hid (ownsRow_below (ownsRow_below hxs BW.out) (below1 w2 (.cells #[.int .i64 yk, .slice ya1 yn1 ym1, .slice ya2 yn2 ym2, .slice ya3 yn3 ym3, .slice ya4 yn4 ym4, .slice ya5 yn5 ym5, .int .i64 yc, .int .i64 ye] 31)))
      have S1 := Lib.hid (show w.heap.size ≤ w2.heap.size from (below_then RV.out.below BW.out).size)
      clear ho hb hxs c0 c1 c2 c3 c4 c5 c6 c7
      go_wp2_with (at_builtin; refine wpList_append_own_at _ rfl _ _ 29 rfl w.heap.size 31 i0 _ 8 144 Tryd.underlying29 hi0 hz0 hz1 hz2 rfl (by decide) _ k xs rfl OR.out ⟨w2.heap.size, 0, none⟩ 1 1 [.int .i64 yk, .slice ya1 yn1 ym1, .slice ya2 yn2 ym2, .slice ya3 yn3 ym3, .slice ya4 yn4 ym4, .slice ya5 yn5 ym5, .int .i64 yc, .int .i64 ye] rfl rfl ?c1 ?c2 ?c3 ?c4 ?c5 ?_)
      case c1 =>
        intro j u hj
        have hlt : j < 8 := by have := (List.getElem?_eq_some_iff.1 hj).1; simpa using this
        rw [addr_add, Nat.zero_add]
        refine cellOf (blk_new w2 _ rfl) ?_
        rw [← hj]
        rcases (show j = 0 ∨ j = 1 ∨ j = 2 ∨ j = 3 ∨ j = 4 ∨ j = 5 ∨ j = 6 ∨ j = 7 by omega) with rfl | rfl | rfl | rfl | rfl | rfl | rfl | rfl <;> rfl
      case c2 => intro u hu; simp only [List.mem_cons, List.not_mem_nil, or_false] at hu; rcases hu with rfl | rfl | rfl | rfl | rfl | rfl | rfl | rfl <;> rfl
      case c3 => unfold maxLen; omega
      case c4 => omega
      case c5 => have := S1.out; simp; omega
      intro v' w3 hown' hgrow _ hwh
      have NX := Lib.hid (RV.out.next HO.out (by simp) BW.out hgrow (fun ys hy => ownsRow_same XS.out hy ▸ hown') (by simpa using hwh))
      clear hown' hgrow hwh
      go_wp2
      go_roundw
      case rel => exact ⟨k + 1, by omega, by go_num, NX.out⟩
      case measure => simp [intOf]; omega
    · obtain rfl : k = n := by omega
      go_wp2
      obtain ⟨F, h1, h2, h3⟩ := FIN.out _ _ RV.out
      go_ret
      exact ⟨_, F, rfl, h1, h2, h3, RV.out.below, by rw [HNn.out]; exact RV.out.row⟩
set_option maxHeartbeats 4000000 in
theorem icvStep (d : Nat) (IS : ICS d) : ICV (d + 1) := by
  refine ⟨fun v val lo hi w hv hhi hsm => ?_⟩
  obtain ⟨kk, items, parts, names, cls, levels, code, env⟩ := v
  obtain ⟨d', ai, ci, ap, cp, an, cn, ac, cc, al, cl, ed, rfl, hI, hN, hC, hL, hP⟩ := vecAt_open hv
  obtain rfl : d = d' := by omega
  have hsp : ∀ i, i < parts.length → Small d (parts.getD i noV) := fun i hi => hsm.part hi
  obtain ⟨li, lp, ln, lc, ll, _⟩ := hsm
  have HI := Lib.hid (fun (w1 : World) (hb : Below w.heap.size w w1) => hI.below hb hhi)
  have CP := Lib.hid (fun (w1 : World) (hb : Below w.heap.size w w1) => IS.out parts ap cp lo hi w1 (hP.below hb hhi) (Nat.le_trans hhi hb.size) hsp lp)
  have CT3 := Lib.hid (fun (w1 : World) (hb : Below w.heap.size w w1) => implCopyAny names an cn lo hi w1 (hN.below hb hhi) ln)
  have CT4 := Lib.hid (fun (w1 : World) (hb : Below w.heap.size w w1) => implCopyAny cls ac cc lo hi w1 (hC.below hb hhi) lc)
  have CT5 := Lib.hid (fun (w1 : World) (hb : Below w.heap.size w w1) => implCopyAny levels al cl lo hi w1 (hL.below hb hhi) ll)
  clear hv hI hN hC hL hP hsp
  go_enter Tryd.func96, Tryd.ntmps96
  obtain ⟨w1, hw1⟩ : ∃ W, (w.alloc (.cells #[.int .i64 kk, .slice ai items.length ci, .slice ap parts.length cp, .slice an names.length cn, .slice ac cls.length cc, .slice al levels.length cl, .int .i64 code, .int .i64 env] 31)).alloc (.cells #[.int .i64 0, .slice none 0 0, .slice none 0 0, .slice none 0 0, .slice none 0 0, .slice none 0 0, .int .i64 0, .int .i64 0] 31) = W := ⟨_, rfl⟩
  have hsz : (w.alloc (.cells #[.int .i64 kk, .slice ai items.length ci, .slice ap parts.length cp, .slice an names.length cn, .slice ac cls.length cc, .slice al levels.length cl, .int .i64 code, .int .i64 env] 31)).heap.size = w.heap.size + 1 := by simp
  have B1 := Lib.hid (show Below w.heap.size w w1 from hw1 ▸ (below1 w _).alloc (by simp) _)
  have KA1 := Lib.hid (show w1.heap[w.heap.size]? = some (.cells #[.int .i64 kk, .slice ai items.length ci, .slice ap parts.length cp, .slice an names.length cn, .slice ac cls.length cc, .slice al levels.length cl, .int .i64 code, .int .i64 env] 31 (0, 0)) from hw1 ▸ blk_old (blk_new w _ rfl))
  have KR1 := Lib.hid (show w1.heap[w.heap.size + 1]? = some (.cells #[.int .i64 0, .slice none 0 0, .slice none 0 0, .slice none 0 0, .slice none 0 0, .slice none 0 0, .int .i64 0, .int .i64 0] 31 (0, 0)) from hw1 ▸ hsz ▸ blk_new (w.alloc (.cells #[.int .i64 kk, .slice ai items.length ci, .slice ap parts.length cp, .slice an names.length cn, .slice ac cls.length cc, .slice al levels.length cl, .int .i64 code, .int .i64 env] 31)) (.cells #[.int .i64 0, .slice none 0 0, .slice none 0 0, .slice none 0 0, .slice none 0 0, .slice none 0 0, .int .i64 0, .int .i64 0] 31) rfl)
  have hs1 : w.heap.size + 1 < w1.heap.size := (Array.getElem?_eq_some_iff.1 KR1.out).1
  have EW := Lib.hid hw1
  clear hw1 hsz
  go_wp2_with (at_builtin; rw [EW.out]; refine wpList_copyItems rfl _ _ rfl w1.heap.size _ rfl (.inl rfl) ai ci items lo hi rfl (HI.out _ B1.out) li (Nat.le_refl _) ?_)
  intro v' w2 hcp hb
  obtain ⟨q1, r1, F1, rfl, hT1, hn1, hr1, hc1⟩ := hcp
  have B2 := Lib.hid (below_then B1.out hb)
  have KA2 := Lib.hid (blk_below hb KA1.out)
  have KR2 := Lib.hid (blk_below hb KR1.out)
  have P1w2 := Lib.hid hT1
  have N1 := Lib.hid hn1
  have R1 := Lib.hid hr1
  have C1 := Lib.hid hc1
  have Z2 := Lib.hid hb.size
  clear hT1 hn1 hr1 hc1 hb
  have u2 : ∃ x, w2.cell? ⟨w.heap.size, 1, none⟩ = some x := ⟨_, cellOf KA2.out rfl⟩
  obtain ⟨x2, hx2⟩ := u2
  have hf2 : w2.frozen? ⟨w.heap.size, 1, none⟩ = false := freeOf KA2.out
  obtain ⟨w3, hw⟩ : ∃ W, w2.setCell ⟨w.heap.size, 1, none⟩ (.slice q1 items.length r1) = W := ⟨_, rfl⟩
  have KA3 := Lib.hid (show w3.heap[w.heap.size]? = some (.cells #[.int .i64 kk, .slice q1 items.length r1, .slice ap parts.length cp, .slice an names.length cn, .slice ac cls.length cc, .slice al levels.length cl, .int .i64 code, .int .i64 env] 31 (0, 0)) from hw ▸ Joins.block_setCell KA2.out _)
  have KR3 := Lib.hid (show w3.heap[w.heap.size + 1]? = some (.cells #[.int .i64 0, .slice none 0 0, .slice none 0 0, .slice none 0 0, .slice none 0 0, .slice none 0 0, .int .i64 0, .int .i64 0] 31 (0, 0)) from hw ▸ (Below.heap_setCell _ _ _ _ (by show w.heap.size + 1 ≠ w.heap.size; omega)).trans KR2.out)
  have B3 := Lib.hid (show Below w.heap.size w w3 from hw ▸ B2.out.setCell (p := ⟨w.heap.size, 1, none⟩) (Nat.le_refl _) _)
  have Z3 := Lib.hid (show w2.heap.size ≤ w3.heap.size from hw ▸ (by simp))
  have E3 := Lib.hid (show w3.heap.size = w2.heap.size from hw ▸ (by simp))
  have P1w3 := Lib.hid (show OwnIts w3 q1 items F1 from hw ▸ P1w2.out.kept (fun g hg => Below.heap_setCell _ _ _ _ (by have := R1.out g hg; show g ≠ w.heap.size; have := Z2.out; omega)))
  have EW3 := Lib.hid hw
  clear hw
  obtain ⟨k0, k1, k2, k3, k4, k5, k6, k7⟩ := vec8 KA2.out
  go_wp2_with fail
  rw [EW3.out]
  clear k0 k1 k2 k3 k4 k5 k6 k7 hx2 hf2
  with_reducible refine (CP.out _ B3.out).mono ?_
  rintro e w4 ⟨v, F2, rfl, hT, hn, hr, hb, _⟩
  obtain ⟨q2, r2, rfl, hcc, hT'⟩ := hT
  have P2w4 := Lib.hid (show OwnParts w4 d (.slice q2 parts.length r2) parts F2 from ⟨q2, r2, rfl, hcc, hT'⟩)
  clear hT'
  have B4 := Lib.hid (below_then B3.out hb)
  have KA4 := Lib.hid (blk_below hb KA3.out)
  have KR4 := Lib.hid (blk_below hb KR3.out)
  have N2 := Lib.hid hn
  have R2 := Lib.hid hr
  have C2 := Lib.hid hcc
  have Z4 := Lib.hid hb.size
  have P1w4 := Lib.hid (P1w3.out.kept (fun g hg => hb.block g (by have := R1.out g hg; have := Z2.out; have := Z3.out; omega)))
  clear hb hn hr hcc
  have u4 : ∃ x, w4.cell? ⟨w.heap.size, 2, none⟩ = some x := ⟨_, cellOf KA4.out rfl⟩
  obtain ⟨x4, hx4⟩ := u4
  have hf4 : w4.frozen? ⟨w.heap.size, 2, none⟩ = false := freeOf KA4.out
  obtain ⟨w5, hw⟩ : ∃ W, w4.setCell ⟨w.heap.size, 2, none⟩ (.slice q2 parts.length r2) = W := ⟨_, rfl⟩
  have KA5 := Lib.hid (show w5.heap[w.heap.size]? = some (.cells #[.int .i64 kk, .slice q1 items.length r1, .slice q2 parts.length r2, .slice an names.length cn, .slice ac cls.length cc, .slice al levels.length cl, .int .i64 code, .int .i64 env] 31 (0, 0)) from hw ▸ Joins.block_setCell KA4.out _)
  have KR5 := Lib.hid (show w5.heap[w.heap.size + 1]? = some (.cells #[.int .i64 0, .slice none 0 0, .slice none 0 0, .slice none 0 0, .slice none 0 0, .slice none 0 0, .int .i64 0, .int .i64 0] 31 (0, 0)) from hw ▸ (Below.heap_setCell _ _ _ _ (by show w.heap.size + 1 ≠ w.heap.size; omega)).trans KR4.out)
  have B5 := Lib.hid (show Below w.heap.size w w5 from hw ▸ B4.out.setCell (p := ⟨w.heap.size, 2, none⟩) (Nat.le_refl _) _)
  have Z5 := Lib.hid (show w4.heap.size ≤ w5.heap.size from hw ▸ (by simp))
  have E5 := Lib.hid (show w5.heap.size = w4.heap.size from hw ▸ (by simp))
  have P1w5 := Lib.hid (show OwnIts w5 q1 items F1 from hw ▸ P1w4.out.kept (fun g hg => Below.heap_setCell _ _ _ _ (by have := R1.out g hg; show g ≠ w.heap.size; have := Z2.out; have := Z3.out; have := Z4.out; omega)))
  have P2w5 := Lib.hid (show OwnParts w5 d (.slice q2 parts.length r2) parts F2 from hw ▸ P2w4.out.kept (fun g hg => Below.heap_setCell _ _ _ _ (by have := R2.out g hg; show g ≠ w.heap.size; have := Z2.out; have := Z3.out; have := Z4.out; omega)))
  have EW5 := Lib.hid hw
  clear hw
  obtain ⟨k0, k1, k2, k3, k4, k5, k6, k7⟩ := vec8 KA4.out
  go_wp2_with fail
  rw [EW5.out]
  clear k0 k1 k2 k3 k4 k5 k6 k7 hx4 hf4
  with_reducible refine (CT3.out _ B5.out).mono ?_
  rintro e w6 ⟨v, rfl, ⟨q3, r3, F3, rfl, hT, hn, hr, hcc⟩, hb⟩
  have P3w6 := Lib.hid hT
  clear hT
  have B6 := Lib.hid (below_then B5.out hb)
  have KA6 := Lib.hid (blk_below hb KA5.out)
  have KR6 := Lib.hid (blk_below hb KR5.out)
  have N3 := Lib.hid hn
  have R3 := Lib.hid hr
  have C3 := Lib.hid hcc
  have Z6 := Lib.hid hb.size
  have P1w6 := Lib.hid (P1w5.out.kept (fun g hg => hb.block g (by have := R1.out g hg; have := Z2.out; have := Z3.out; have := Z4.out; have := Z5.out; omega)))
  have P2w6 := Lib.hid (P2w5.out.kept (fun g hg => hb.block g (by have := R2.out g hg; have := Z2.out; have := Z3.out; have := Z4.out; have := Z5.out; omega)))
  clear hb hn hr hcc
  have u6 : ∃ x, w6.cell? ⟨w.heap.size, 3, none⟩ = some x := ⟨_, cellOf KA6.out rfl⟩
  obtain ⟨x6, hx6⟩ := u6
  have hf6 : w6.frozen? ⟨w.heap.size, 3, none⟩ = false := freeOf KA6.out
  obtain ⟨w7, hw⟩ : ∃ W, w6.setCell ⟨w.heap.size, 3, none⟩ (.slice q3 names.length r3) = W := ⟨_, rfl⟩
  have KA7 := Lib.hid (show w7.heap[w.heap.size]? = some (.cells #[.int .i64 kk, .slice q1 items.length r1, .slice q2 parts.length r2, .slice q3 names.length r3, .slice ac cls.length cc, .slice al levels.length cl, .int .i64 code, .int .i64 env] 31 (0, 0)) from hw ▸ Joins.block_setCell KA6.out _)
  have KR7 := Lib.hid (show w7.heap[w.heap.size + 1]? = some (.cells #[.int .i64 0, .slice none 0 0, .slice none 0 0, .slice none 0 0, .slice none 0 0, .slice none 0 0, .int .i64 0, .int .i64 0] 31 (0, 0)) from hw ▸ (Below.heap_setCell _ _ _ _ (by show w.heap.size + 1 ≠ w.heap.size; omega)).trans KR6.out)
  have B7 := Lib.hid (show Below w.heap.size w w7 from hw ▸ B6.out.setCell (p := ⟨w.heap.size, 3, none⟩) (Nat.le_refl _) _)
  have Z7 := Lib.hid (show w6.heap.size ≤ w7.heap.size from hw ▸ (by simp))
  have E7 := Lib.hid (show w7.heap.size = w6.heap.size from hw ▸ (by simp))
  have P1w7 := Lib.hid (show OwnIts w7 q1 items F1 from hw ▸ P1w6.out.kept (fun g hg => Below.heap_setCell _ _ _ _ (by have := R1.out g hg; show g ≠ w.heap.size; have := Z2.out; have := Z3.out; have := Z4.out; have := Z5.out; have := Z6.out; omega)))
  have P2w7 := Lib.hid (show OwnParts w7 d (.slice q2 parts.length r2) parts F2 from hw ▸ P2w6.out.kept (fun g hg => Below.heap_setCell _ _ _ _ (by have := R2.out g hg; show g ≠ w.heap.size; have := Z2.out; have := Z3.out; have := Z4.out; have := Z5.out; have := Z6.out; omega)))
  have P3w7 := Lib.hid (show OwnTxs w7 q3 names F3 from hw ▸ P3w6.out.kept (fun g hg => Below.heap_setCell _ _ _ _ (by have := R3.out g hg; show g ≠ w.heap.size; have := Z2.out; have := Z3.out; have := Z4.out; have := Z5.out; have := Z6.out; omega)))
  have EW7 := Lib.hid hw
  clear hw
  obtain ⟨k0, k1, k2, k3, k4, k5, k6, k7⟩ := vec8 KA6.out
  go_wp2_with fail
  rw [EW7.out]
  clear k0 k1 k2 k3 k4 k5 k6 k7 hx6 hf6
  with_reducible refine (CT4.out _ B7.out).mono ?_
  rintro e w8 ⟨v, rfl, ⟨q4, r4, F4, rfl, hT, hn, hr, hcc⟩, hb⟩
  have P4w8 := Lib.hid hT
  clear hT
  have B8 := Lib.hid (below_then B7.out hb)
  have KA8 := Lib.hid (blk_below hb KA7.out)
  have KR8 := Lib.hid (blk_below hb KR7.out)
  have N4 := Lib.hid hn
  have R4 := Lib.hid hr
  have C4 := Lib.hid hcc
  have Z8 := Lib.hid hb.size
  have P1w8 := Lib.hid (P1w7.out.kept (fun g hg => hb.block g (by have := R1.out g hg; have := Z2.out; have := Z3.out; have := Z4.out; have := Z5.out; have := Z6.out; have := Z7.out; omega)))
  have P2w8 := Lib.hid (P2w7.out.kept (fun g hg => hb.block g (by have := R2.out g hg; have := Z2.out; have := Z3.out; have := Z4.out; have := Z5.out; have := Z6.out; have := Z7.out; omega)))
  have P3w8 := Lib.hid (P3w7.out.kept (fun g hg => hb.block g (by have := R3.out g hg; have := Z2.out; have := Z3.out; have := Z4.out; have := Z5.out; have := Z6.out; have := Z7.out; omega)))
  clear hb hn hr hcc
  have u8 : ∃ x, w8.cell? ⟨w.heap.size, 4, none⟩ = some x := ⟨_, cellOf KA8.out rfl⟩
  obtain ⟨x8, hx8⟩ := u8
  have hf8 : w8.frozen? ⟨w.heap.size, 4, none⟩ = false := freeOf KA8.out
  obtain ⟨w9, hw⟩ : ∃ W, w8.setCell ⟨w.heap.size, 4, none⟩ (.slice q4 cls.length r4) = W := ⟨_, rfl⟩
  have KA9 := Lib.hid (show w9.heap[w.heap.size]? = some (.cells #[.int .i64 kk, .slice q1 items.length r1, .slice q2 parts.length r2, .slice q3 names.length r3, .slice q4 cls.length r4, .slice al levels.length cl, .int .i64 code, .int .i64 env] 31 (0, 0)) from hw ▸ Joins.block_setCell KA8.out _)
  have KR9 := Lib.hid (show w9.heap[w.heap.size + 1]? = some (.cells #[.int .i64 0, .slice none 0 0, .slice none 0 0, .slice none 0 0, .slice none 0 0, .slice none 0 0, .int .i64 0, .int .i64 0] 31 (0, 0)) from hw ▸ (Below.heap_setCell _ _ _ _ (by show w.heap.size + 1 ≠ w.heap.size; omega)).trans KR8.out)
  have B9 := Lib.hid (show Below w.heap.size w w9 from hw ▸ B8.out.setCell (p := ⟨w.heap.size, 4, none⟩) (Nat.le_refl _) _)
  have Z9 := Lib.hid (show w8.heap.size ≤ w9.heap.size from hw ▸ (by simp))
  have E9 := Lib.hid (show w9.heap.size = w8.heap.size from hw ▸ (by simp))
  have P1w9 := Lib.hid (show OwnIts w9 q1 items F1 from hw ▸ P1w8.out.kept (fun g hg => Below.heap_setCell _ _ _ _ (by have := R1.out g hg; show g ≠ w.heap.size; have := Z2.out; have := Z3.out; have := Z4.out; have := Z5.out; have := Z6.out; have := Z7.out; have := Z8.out; omega)))
  have P2w9 := Lib.hid (show OwnParts w9 d (.slice q2 parts.length r2) parts F2 from hw ▸ P2w8.out.kept (fun g hg => Below.heap_setCell _ _ _ _ (by have := R2.out g hg; show g ≠ w.heap.size; have := Z2.out; have := Z3.out; have := Z4.out; have := Z5.out; have := Z6.out; have := Z7.out; have := Z8.out; omega)))
  have P3w9 := Lib.hid (show OwnTxs w9 q3 names F3 from hw ▸ P3w8.out.kept (fun g hg => Below.heap_setCell _ _ _ _ (by have := R3.out g hg; show g ≠ w.heap.size; have := Z2.out; have := Z3.out; have := Z4.out; have := Z5.out; have := Z6.out; have := Z7.out; have := Z8.out; omega)))
  have P4w9 := Lib.hid (show OwnTxs w9 q4 cls F4 from hw ▸ P4w8.out.kept (fun g hg => Below.heap_setCell _ _ _ _ (by have := R4.out g hg; show g ≠ w.heap.size; have := Z2.out; have := Z3.out; have := Z4.out; have := Z5.out; have := Z6.out; have := Z7.out; have := Z8.out; omega)))
  have EW9 := Lib.hid hw
  clear hw
  obtain ⟨k0, k1, k2, k3, k4, k5, k6, k7⟩ := vec8 KA8.out
  go_wp2_with fail
  rw [EW9.out]
  clear k0 k1 k2 k3 k4 k5 k6 k7 hx8 hf8
  with_reducible refine (CT5.out _ B9.out).mono ?_
  rintro e w10 ⟨v, rfl, ⟨q5, r5, F5, rfl, hT, hn, hr, hcc⟩, hb⟩
  have P5w10 := Lib.hid hT
  clear hT
  have B10 := Lib.hid (below_then B9.out hb)
  have KA10 := Lib.hid (blk_below hb KA9.out)
  have KR10 := Lib.hid (blk_below hb KR9.out)
  have N5 := Lib.hid hn
  have R5 := Lib.hid hr
  have C5 := Lib.hid hcc
  have Z10 := Lib.hid hb.size
  have P1w10 := Lib.hid (P1w9.out.kept (fun g hg => hb.block g (by have := R1.out g hg; have := Z2.out; have := Z3.out; have := Z4.out; have := Z5.out; have := Z6.out; have := Z7.out; have := Z8.out; have := Z9.out; omega)))
  have P2w10 := Lib.hid (P2w9.out.kept (fun g hg => hb.block g (by have := R2.out g hg; have := Z2.out; have := Z3.out; have := Z4.out; have := Z5.out; have := Z6.out; have := Z7.out; have := Z8.out; have := Z9.out; omega)))
  have P3w10 := Lib.hid (P3w9.out.kept (fun g hg => hb.block g (by have := R3.out g hg; have := Z2.out; have := Z3.out; have := Z4.out; have := Z5.out; have := Z6.out; have := Z7.out; have := Z8.out; have := Z9.out; omega)))
  have P4w10 := Lib.hid (P4w9.out.kept (fun g hg => hb.block g (by have := R4.out g hg; have := Z2.out; have := Z3.out; have := Z4.out; have := Z5.out; have := Z6.out; have := Z7.out; have := Z8.out; have := Z9.out; omega)))
  clear hb hn hr hcc
  have u10 : ∃ x, w10.cell? ⟨w.heap.size, 5, none⟩ = some x := ⟨_, cellOf KA10.out rfl⟩
  obtain ⟨x10, hx10⟩ := u10
  have hf10 : w10.frozen? ⟨w.heap.size, 5, none⟩ = false := freeOf KA10.out
  obtain ⟨w11, hw⟩ : ∃ W, w10.setCell ⟨w.heap.size, 5, none⟩ (.slice q5 levels.length r5) = W := ⟨_, rfl⟩
  have KA11 := Lib.hid (show w11.heap[w.heap.size]? = some (.cells #[.int .i64 kk, .slice q1 items.length r1, .slice q2 parts.length r2, .slice q3 names.length r3, .slice q4 cls.length r4, .slice q5 levels.length r5, .int .i64 code, .int .i64 env] 31 (0, 0)) from hw ▸ Joins.block_setCell KA10.out _)
  have KR11 := Lib.hid (show w11.heap[w.heap.size + 1]? = some (.cells #[.int .i64 0, .slice none 0 0, .slice none 0 0, .slice none 0 0, .slice none 0 0, .slice none 0 0, .int .i64 0, .int .i64 0] 31 (0, 0)) from hw ▸ (Below.heap_setCell _ _ _ _ (by show w.heap.size + 1 ≠ w.heap.size; omega)).trans KR10.out)
  have B11 := Lib.hid (show Below w.heap.size w w11 from hw ▸ B10.out.setCell (p := ⟨w.heap.size, 5, none⟩) (Nat.le_refl _) _)
  have Z11 := Lib.hid (show w10.heap.size ≤ w11.heap.size from hw ▸ (by simp))
  have E11 := Lib.hid (show w11.heap.size = w10.heap.size from hw ▸ (by simp))
  have P1w11 := Lib.hid (show OwnIts w11 q1 items F1 from hw ▸ P1w10.out.kept (fun g hg => Below.heap_setCell _ _ _ _ (by have := R1.out g hg; show g ≠ w.heap.size; have := Z2.out; have := Z3.out; have := Z4.out; have := Z5.out; have := Z6.out; have := Z7.out; have := Z8.out; have := Z9.out; have := Z10.out; omega)))
  have P2w11 := Lib.hid (show OwnParts w11 d (.slice q2 parts.length r2) parts F2 from hw ▸ P2w10.out.kept (fun g hg => Below.heap_setCell _ _ _ _ (by have := R2.out g hg; show g ≠ w.heap.size; have := Z2.out; have := Z3.out; have := Z4.out; have := Z5.out; have := Z6.out; have := Z7.out; have := Z8.out; have := Z9.out; have := Z10.out; omega)))
  have P3w11 := Lib.hid (show OwnTxs w11 q3 names F3 from hw ▸ P3w10.out.kept (fun g hg => Below.heap_setCell _ _ _ _ (by have := R3.out g hg; show g ≠ w.heap.size; have := Z2.out; have := Z3.out; have := Z4.out; have := Z5.out; have := Z6.out; have := Z7.out; have := Z8.out; have := Z9.out; have := Z10.out; omega)))
  have P4w11 := Lib.hid (show OwnTxs w11 q4 cls F4 from hw ▸ P4w10.out.kept (fun g hg => Below.heap_setCell _ _ _ _ (by have := R4.out g hg; show g ≠ w.heap.size; have := Z2.out; have := Z3.out; have := Z4.out; have := Z5.out; have := Z6.out; have := Z7.out; have := Z8.out; have := Z9.out; have := Z10.out; omega)))
  have P5w11 := Lib.hid (show OwnTxs w11 q5 levels F5 from hw ▸ P5w10.out.kept (fun g hg => Below.heap_setCell _ _ _ _ (by have := R5.out g hg; show g ≠ w.heap.size; have := Z2.out; have := Z3.out; have := Z4.out; have := Z5.out; have := Z6.out; have := Z7.out; have := Z8.out; have := Z9.out; have := Z10.out; omega)))
  have EW11 := Lib.hid hw
  clear hw
  obtain ⟨k0, k1, k2, k3, k4, k5, k6, k7⟩ := vec8 KA10.out
  go_upto_region 6 with (fail)
  rw [EW11.out]
  clear k0 k1 k2 k3 k4 k5 k6 k7 hx10 hf10
  obtain ⟨k0, k1, k2, k3, k4, k5, k6, k7⟩ := vec8 KA11.out
  obtain ⟨z0, z1, z2, z3, z4, z5, z6, z7⟩ := vec8 KR11.out
  obtain ⟨f0, f1, f2, f3, f4, f5, f6, f7⟩ := free8 KR11.out
  go_wp2
  refine vec_end rfl rfl rfl KR11.out ⟨_, rfl, ⟨F1 ++ (F2 ++ (F3 ++ (F4 ++ F5))), ?_, ?_, ?_⟩, put8_below B11.out (Nat.le_succ _)⟩
  · have P2x := P2w11.out
    obtain ⟨_, _, e2, hc2, h2⟩ := P2x
    simp only [Value.slice.injEq, true_and] at e2
    obtain ⟨rfl, rfl⟩ := e2
    have ho : OwnVec w11 (d + 1) (.mk kk items parts names cls levels code env) (.agg #[.int .i64 kk, .slice q1 items.length r1, .slice q2 parts.length r2, .slice q3 names.length r3, .slice q4 cls.length r4, .slice q5 levels.length r5, .int .i64 code, .int .i64 env]) (F1 ++ (F2 ++ (F3 ++ (F4 ++ F5)))) := by
      unfold OwnVec
      exact ⟨q1, r1, q2, r2, q3, r3, q4, r4, q5, r5, F1, F2, F3, F4, F5, rfl, rfl, ⟨C1.out, C2.out, C3.out, C4.out, C5.out⟩, P1w11.out, P3w11.out, P4w11.out, P5w11.out, h2⟩
    refine ho.kept _ _ _ _ (fun g hg => put8_other ?_)
    simp only [List.mem_append] at hg
    rcases hg with hg | hg | hg | hg | hg
    · have := R1.out g hg; have := Z2.out; have := Z3.out; have := Z4.out; have := Z5.out; have := Z6.out; have := Z7.out; have := Z8.out; have := Z9.out; have := Z10.out; have := Z11.out; omega
    · have := R2.out g hg; have := Z2.out; have := Z3.out; have := Z4.out; have := Z5.out; have := Z6.out; have := Z7.out; have := Z8.out; have := Z9.out; have := Z10.out; have := Z11.out; omega
    · have := R3.out g hg; have := Z2.out; have := Z3.out; have := Z4.out; have := Z5.out; have := Z6.out; have := Z7.out; have := Z8.out; have := Z9.out; have := Z10.out; have := Z11.out; omega
    · have := R4.out g hg; have := Z2.out; have := Z3.out; have := Z4.out; have := Z5.out; have := Z6.out; have := Z7.out; have := Z8.out; have := Z9.out; have := Z10.out; have := Z11.out; omega
    · have := R5.out g hg; have := Z2.out; have := Z3.out; have := Z4.out; have := Z5.out; have := Z6.out; have := Z7.out; have := Z8.out; have := Z9.out; have := Z10.out; have := Z11.out; omega
  · simp only [List.nodup_append, List.mem_append]
    refine ⟨N1.out, ⟨N2.out, ⟨N3.out, ⟨N4.out, N5.out, ?_⟩, ?_⟩, ?_⟩, ?_⟩
    · intro a ha b hb e; subst e; have x := R4.out a ha; have := Z2.out; have := Z3.out; have := Z4.out; have := Z5.out; have := Z6.out; have := Z7.out; have := Z8.out; have := Z9.out; have := Z10.out; have := Z11.out
      have y := R5.out a hb; omega
    · intro a ha b hb e; subst e; have x := R3.out a ha; have := Z2.out; have := Z3.out; have := Z4.out; have := Z5.out; have := Z6.out; have := Z7.out; have := Z8.out; have := Z9.out; have := Z10.out; have := Z11.out
      rcases hb with hb | hb
      · have y := R4.out a hb; omega
      · have y := R5.out a hb; omega
    · intro a ha b hb e; subst e; have x := R2.out a ha; have := Z2.out; have := Z3.out; have := Z4.out; have := Z5.out; have := Z6.out; have := Z7.out; have := Z8.out; have := Z9.out; have := Z10.out; have := Z11.out
      rcases hb with hb | hb | hb
      · have y := R3.out a hb; omega
      · have y := R4.out a hb; omega
      · have y := R5.out a hb; omega
    · intro a ha b hb e; subst e; have x := R1.out a ha; have := Z2.out; have := Z3.out; have := Z4.out; have := Z5.out; have := Z6.out; have := Z7.out; have := Z8.out; have := Z9.out; have := Z10.out; have := Z11.out
      rcases hb with hb | hb | hb | hb
      · have y := R2.out a hb; omega
      · have y := R3.out a hb; omega
      · have y := R4.out a hb; omega
      · have y := R5.out a hb; omega
  · intro g hg
    rw [put8_size]
    simp only [List.mem_append] at hg
    rcases hg with hg | hg | hg | hg | hg
    · have := R1.out g hg; have := Z2.out; have := Z3.out; have := Z4.out; have := Z5.out; have := Z6.out; have := Z7.out; have := Z8.out; have := Z9.out; have := Z10.out; have := Z11.out; omega
    · have := R2.out g hg; have := Z2.out; have := Z3.out; have := Z4.out; have := Z5.out; have := Z6.out; have := Z7.out; have := Z8.out; have := Z9.out; have := Z10.out; have := Z11.out; omega
    · have := R3.out g hg; have := Z2.out; have := Z3.out; have := Z4.out; have := Z5.out; have := Z6.out; have := Z7.out; have := Z8.out; have := Z9.out; have := Z10.out; have := Z11.out; omega
    · have := R4.out g hg; have := Z2.out; have := Z3.out; have := Z4.out; have := Z5.out; have := Z6.out; have := Z7.out; have := Z8.out; have := Z9.out; have := Z10.out; have := Z11.out; omega
    · have := R5.out g hg; have := Z2.out; have := Z3.out; have := Z4.out; have := Z5.out; have := Z6.out; have := Z7.out; have := Z8.out; have := Z9.out; have := Z10.out; have := Z11.out; omega
theorem icvZero : ICV 0 := ⟨fun _ _ _ _ _ h => h.elim⟩
theorem icvAll : ∀ d, ICV d
  | 0 => icvZero
  | d + 1 => icvStep d (icsStep d (icvAll d))
theorem icsAll (d : Nat) : ICS d := icsStep d (icvAll d)
end Go.Proofs.YtjpdnabfpiengaaDoor

/- NotVector as data. -/
namespace Go.Proofs.YtjpdnabfpiengaaDoor
open Go.RowKit
set_option maxRecDepth 100000
set_option linter.unusedVariables false

def notIt (x : It) : It := logI (nL (truthI x))
theorem notIt_t (x : It) : (notIt x).t.size ≤ 1048576 := logI_t _
/-- What NotVector answers. -/
noncomputable def notV (v : Vec) : Vec := match bB (ValidV v ∧ Counts v), v with
  | true, .mk _ items _ names _ _ _ _ => mkN 1 (itF (fun i => notIt (items.getD i noI)) items.length) names
  | false, _ => noV
noncomputable def notS (v : Vec) : ByteArray := match bB (ValidV v), bB (Counts v) with
  | false, _ => badB
  | true, false => nonLogB
  | true, true => ⟨#[]⟩
theorem notV_yes {k : Int} {items : List It} {parts : List Vec} {names cls levels : List ByteArray} {code env : Int} (h : ValidV (.mk k items parts names cls levels code env)) (hc : Counts (.mk k items parts names cls levels code env)) : notV (.mk k items parts names cls levels code env) = mkN 1 (itF (fun i => notIt (items.getD i noI)) items.length) names := by
  unfold notV; rw [bB_yes ⟨h, hc⟩]
theorem notV_bad {v : Vec} (h : ¬ ValidV v) : notV v = noV := by unfold notV; rw [bB_no (fun k => h k.1)]
theorem notV_non {v : Vec} (h : ¬ Counts v) : notV v = noV := by unfold notV; rw [bB_no (fun k => h k.2)]
theorem notS_yes {v : Vec} (h : ValidV v) (hc : Counts v) : notS v = ⟨#[]⟩ := by unfold notS; rw [bB_yes h, bB_yes hc]
theorem notS_bad {v : Vec} (h : ¬ ValidV v) : notS v = badB := by unfold notS; rw [bB_no h]
theorem notS_non {v : Vec} (h : ValidV v) (hc : ¬ Counts v) : notS v = nonLogB := by unfold notS; rw [bB_yes h, bB_no hc]
end Go.Proofs.YtjpdnabfpiengaaDoor

/- The elements of a vector as the parts of a list. -/
namespace Go.Proofs.YtjpdnabfpiengaaDoor
open Go.RowKit
set_option maxRecDepth 100000
set_option linter.unusedVariables false

/-- The elements of a vector as vectors. -/
def elems (v : Vec) : List Vec := match v with
  | .mk k items parts names cls levels code env => if k = 5 then [.mk k items parts names cls levels code env] else if k = 4 then parts else items.map (fun x => vecOf k [x])
theorem OwnParts.vecs {w : World} {d lo hi : Nat} {a : Option Addr} {c : Nat} {parts : List Vec} {F : List Nat} (h : OwnParts w d (.slice a parts.length c) parts F) (k : ∀ b ∈ F, lo ≤ b ∧ b < hi) : VecsAt lo hi w d a parts := by
  obtain ⟨ap, cp, e, _, h⟩ := h
  simp only [Value.slice.injEq, true_and] at e
  obtain ⟨rfl, rfl⟩ := e
  intro i p hp
  obtain ⟨hi', rfl⟩ := List.getElem?_eq_some_iff.1 hp
  rcases h with ⟨rfl, _⟩ | ⟨b, C, Fs, rfl, hl, e', hb, hc, hps⟩
  · cases hi'
  · obtain ⟨val, hv, c0, c1, c2, c3, c4, c5, c6, c7, rfl, m0, m1, m2, m3, m4, m5, m6, m7⟩ := hps i hi'
    have e1 : parts.getD i noV = parts[i] := by simp [List.getD_eq_getElem?_getD, List.getElem?_eq_getElem hi']
    rw [e1] at hv
    have hbb := k b (by simp)
    refine ⟨b, 0, c0, c1, c2, c3, c4, c5, c6, c7, e', hbb.1, hbb.2, OwnVec.vecAt d _ _ _ hv (fun b' hb' => k b' (by have := mem_flat (by omega) hb'; simp only [List.mem_cons]; exact .inr this)), ?_⟩
    rw [Nat.zero_add]
    exact ⟨cellOf hb m0, cellOf hb m1, cellOf hb m2, cellOf hb m3, cellOf hb m4, cellOf hb m5, cellOf hb m6, cellOf hb m7⟩
theorem ownsRow_base {w : World} {base base' : Nat} {el : TypeId} {size n : Nat} {v : Value} {xs : List Value} (h : w.ownsRow base el size v n xs) (hb : base' ≤ base) : w.ownsRow base' el size v n xs := by
  obtain ⟨hl, h⟩ := h
  refine ⟨hl, h.imp id ?_⟩
  rintro ⟨g, cap, cur, e, hB, r⟩
  exact ⟨g, cap, cur, e, by omega, r⟩
theorem Own.vatL {d : Nat} {V : Vec} {y : Value} {lo hi L H : Nat} {w : World} (h : Own d V y lo hi w) (hl : L ≤ lo) (hh : hi ≤ H) : VecAt L H w d V y := by
  obtain ⟨F, h1, _, h3⟩ := h.out
  exact h1.vecAt _ _ _ _ (fun b hm => by have := h3 b hm; omega)
/-- What elementsOf answers. -/
def ElmAns (v : Vec) (w : World) (e : Ending) (w' : World) : Prop := (∃ a c D, e = .returned (.slice a (elems v).length c) ∧ VecsAt w.heap.size w'.heap.size w' D a (elems v) ∧ ∀ i, i < (elems v).length → Small D ((elems v).getD i noV)) ∧ Below w.heap.size w w'
theorem elems_fun {v : Vec} {items : List It} {parts : List Vec} {names cls levels : List ByteArray} {code env : Int} (h : v = .mk 5 items parts names cls levels code env) : elems v = [v] := by subst h; rfl
theorem elems_list {items : List It} {parts : List Vec} {names cls levels : List ByteArray} {code env : Int} : elems (.mk 4 items parts names cls levels code env) = parts := rfl
theorem elems_items {k : Int} {items : List It} {parts : List Vec} {names cls levels : List ByteArray} {code env : Int} (h5 : k ≠ 5) (h4 : k ≠ 4) : elems (.mk k items parts names cls levels code env) = items.map (fun x => vecOf k [x]) := by
  show (if k = 5 then _ else if k = 4 then _ else _) = _
  rw [if_neg h5, if_neg h4]
theorem own_one {w : World} {g : Nat} {k : Int} {x : It} (h : w.heap[g]? = some (.cells #[.int .i64 x.n, .int .i64 x.d, .string x.t] 56 (0, 0))) : Own 1 (vecOf k [x]) (.agg #[.int .i64 k, .slice (some ⟨g, 0, none⟩) 1 1, .slice none 0 0, .slice none 0 0, .slice none 0 0, .slice none 0 0, .int .i64 0, .int .i64 0]) g (g + 1) w := by
  refine ⟨[g], ?_, by simp, fun b hb => by obtain rfl := List.mem_singleton.1 hb; omega⟩
  show OwnVec w 1 (.mk k [x] [] [] [] [] 0 0) _ _
  unfold OwnVec
  exact ⟨some ⟨g, 0, none⟩, 1, none, 0, none, 0, none, 0, none, 0, [g], [], [], [], [], rfl, by simp, ⟨Nat.le_refl _, Nat.le_refl _, Nat.le_refl _, Nat.le_refl _, Nat.le_refl _⟩,
    .inr ⟨g, _, rfl, rfl, h, Nat.le_refl _, fun i hi => by
      obtain rfl : i = 0 := by simpa using hi
      exact ⟨rfl, rfl, rfl⟩⟩, .inl ⟨rfl, rfl⟩, .inl ⟨rfl, rfl⟩, .inl ⟨rfl, rfl⟩, .inl ⟨rfl, rfl⟩⟩
theorem small_one {k : Int} {x : It} (h : x.t.size ≤ 1048576) : Small 1 (vecOf k [x]) := small_vecOf (by simp) (fun y hy => by obtain rfl := List.mem_singleton.1 hy; exact h)
set_option maxHeartbeats 4000000 in
theorem implElems (d : Nat) (v : Vec) (val : Value) (lo hi : Nat) (w : World) (hv : VecAt lo hi w d v val) (hhi : hi ≤ w.heap.size) (hsm : Small d v) (hval : ValidV v) :
    Calls Tryd.prog 80 #[val] w (ElmAns v w) := by
  have CV := Lib.hid (fun (w1 : World) (hb : Below w.heap.size w w1) => (icvAll d).out v val lo hi w1 (hv.below hb hhi) (Nat.le_trans hhi hb.size) hsm)
  have HSM := Lib.hid hsm
  obtain ⟨VV, hVV⟩ : ∃ V, v = V := ⟨_, rfl⟩
  rw [hVV] at CV HSM ⊢
  obtain ⟨kk, items, parts, names, cls, levels, code, env⟩ := v
  obtain ⟨d', ai, ci, ap, cp, an, cn, ac, cc, al, cl, ed, rfl, hI, hN, hC, hL, hP⟩ := vecAt_open hv
  have hf : FlatOk kk items parts.length names cls levels code env := hval.1.flat
  have hsp : ∀ i, i < parts.length → Small d' (parts.getD i noV) := fun i hi => by subst ed; exact hsm.part hi
  have li : items.length ≤ 1048576 := by subst ed; exact hsm.1
  have lp : parts.length ≤ 1048576 := by subst ed; exact hsm.2.1
  have hit : ∀ x ∈ items, x.t.size ≤ 1048576 := by subst ed; exact hsm.2.2.2.2.2.1
  have AI := Lib.hid (fun (k : Nat) (w1 : World) (hk : k < items.length) (hb : Below w.heap.size w w1) => (hI.below hb hhi).at_ hk)
  have CP := Lib.hid (fun (w1 : World) (hb : Below w.heap.size w w1) => (icsAll d').out parts ap cp lo hi w1 (hP.below hb hhi) (Nat.le_trans hhi hb.size) hsp lp)
  have B0 := Lib.hid (below1 w (.cells #[.int .i64 kk, .slice ai items.length ci, .slice ap parts.length cp, .slice an names.length cn, .slice ac cls.length cc, .slice al levels.length cl, .int .i64 code, .int .i64 env] 31))
  have K0 := Lib.hid (blk_new w (.cells #[.int .i64 kk, .slice ai items.length ci, .slice ap parts.length cp, .slice an names.length cn, .slice ac cls.length cc, .slice al levels.length cl, .int .i64 code, .int .i64 env] 31) rfl)
  by_cases h5 : kk = 5
  · subst h5
    have XE := Lib.hid (elems_fun hVV.symm)
    clear hv hI hN hC hL hP hsm ed hVV hf AI CP hval
    go_enter Tryd.func80, Tryd.ntmps80
    go_wp2_with fail
    with_reducible refine (CV.out _ B0.out).mono ?_
    rintro e w2 ⟨y, rfl, ho, hb⟩
    obtain ⟨yk, ya1, yn1, ym1, ya2, yn2, ym2, ya3, yn3, ym3, ya4, yn4, ym4, ya5, yn5, ym5, yc, ye, rfl⟩ := ho.agg
    have HO := Lib.hid ho
    have B2 := Lib.hid (below_then B0.out hb)
    clear ho hb
    go_wp2
    go_ret
    refine ⟨⟨_, _, d, by rw [XE.out]; rfl, ?_, fun i hi => ?_⟩, B2.out.alloc B2.out.size _⟩
    · rw [XE.out]
      intro i p hp
      have hi : i = 0 := by have := (List.getElem?_eq_some_iff.1 hp).1; simpa using this
      subst hi
      obtain rfl : VV = p := by simpa using hp
      have hb := blk_new w2 (.cells #[.int .i64 yk, .slice ya1 yn1 ym1, .slice ya2 yn2 ym2, .slice ya3 yn3 ym3, .slice ya4 yn4 ym4, .slice ya5 yn5 ym5, .int .i64 yc, .int .i64 ye] 31) rfl
      exact ⟨w2.heap.size, 0, _, _, _, _, _, _, _, _, rfl, B2.out.size, (Array.getElem?_eq_some_iff.1 hb).1, ((HO.out.below (below1 w2 _) (Nat.le_refl _)).vatL (by simp) (by simp)), cellOf hb rfl, cellOf hb rfl, cellOf hb rfl, cellOf hb rfl, cellOf hb rfl, cellOf hb rfl, cellOf hb rfl, cellOf hb rfl⟩
    · rw [XE.out] at hi ⊢
      have hi' : i = 0 := by simpa using hi
      subst hi'
      exact HSM.out
  by_cases h4 : kk = 4
  · subst h4
    have hni : items.length = 0 := hf.h_list rfl
    have XE := Lib.hid (show elems VV = parts by rw [← hVV]; rfl)
    have SP := Lib.hid hsp
    clear hv hI hN hC hL hP hsm ed hVV hf AI CV hval hsp hit HSM li lp h5
    rw [hni] at B0 K0 ⊢
    clear hni
    go_enter Tryd.func80, Tryd.ntmps80
    go_wp2_with fail
    with_reducible refine (CP.out _ B0.out).mono ?_
    rintro e w2 ⟨v, F, rfl, hp, hn, hr, hb, _⟩
    obtain ⟨a, c, rfl, h1, h2⟩ := id hp
    have HP := Lib.hid (hp.vecs (lo := w.heap.size) (hi := w2.heap.size) (fun b hb' => ⟨Nat.le_trans (by simp) (hr b hb').1, (hr b hb').2⟩))
    have B2 := Lib.hid (below_then B0.out hb)
    have K2 := Lib.hid (blk_below hb K0.out)
    clear hp hn hr hb h1 h2
    obtain ⟨k0, k1, k2, k3, k4, k5, k6, k7⟩ := vec8 K2.out
    go_wp2
    refine wp_loop_rounds 1 ?_
    rw [rounds_succ]
    go_wp2
    go_ret
    exact ⟨⟨_, _, d', by rw [XE.out]; rfl, by rw [XE.out]; exact HP.out, by rw [XE.out]; exact SP.out⟩, B2.out⟩
  · have hnp : parts.length = 0 := hf.h_noParts h4
    have XE := Lib.hid (show elems VV = items.map (fun x => vecOf kk [x]) by rw [← hVV]; exact elems_items h5 h4)
    have h5b : (kk == 5) = false := by simp [h5]
    obtain ⟨S, hS⟩ : ∃ S : List Vec, items.map (fun x => vecOf kk [x]) = S := ⟨_, rfl⟩
    have SL := Lib.hid (show S.length = items.length by rw [← hS]; simp)
    have SG := Lib.hid (fun i (hi : i < items.length) => (by rw [← hS]; simp [List.getD_eq_getElem?_getD, hi] : S.getD i noV = vecOf kk [items.getD i noI]))
    have SS := Lib.hid (fun i (hi : i < items.length) => (by rw [SG.out i hi]; exact small_one (hit _ (by rw [List.getD_eq_getElem?_getD, List.getElem?_eq_getElem hi]; exact List.getElem_mem hi)) : Small 1 (S.getD i noV)))
    rw [hS] at XE
    have RS := Lib.hid (fun (w2 : World) (v : Value) (xs : List Value) (h : w2.ownsRow w.heap.size 31 8 v 0 xs) (hb : Below w.heap.size w w2) => (⟨⟨[], [], rfl, rfl, by have : xs = [] := List.eq_nil_of_length_eq_zero (by simpa using h.1); subst this; exact h, fun i h => absurd h (Nat.not_lt_zero _), List.nodup_nil, fun b h => by cases h⟩, hb⟩ : RowV w w2 1 S 0 v))
    have FIN := Lib.hid (fun (wr : World) (v : Value) (h : RowV w wr 1 S S.length v) => h.parts)
    rw [SL.out] at FIN
    clear hv hI hN hC hL hP hsm ed hVV hf CV hval hsp hit HSM lp hS h5
    have HNP := Lib.hid hnp
    rw [hnp] at B0 K0 CP ⊢
    clear hnp
    obtain ⟨n, hn'⟩ : ∃ n, items.length = n := ⟨_, rfl⟩
    rw [hn'] at AI SL SG SS FIN B0 K0 li ⊢
    clear hn'
    obtain ⟨i0, hi0, hz0, hz1, hz2⟩ := info_parts infoVec8
    go_enter Tryd.func80, Tryd.ntmps80
    go_wp2_with fail
    with_reducible refine (CP.out _ B0.out).mono ?_
    rintro e w2 ⟨v, F, rfl, hp, hn, hr, hb, xs, hx⟩
    obtain ⟨a, c, rfl, _, _⟩ := id hp
    have ST := Lib.hid (RS.out _ _ _ (HNP.out ▸ ownsRow_base hx (by simp)) (below_then B0.out hb))
    have NB := Lib.hid (show (Value.slice a 0 c).ownBlock ≠ some w.heap.size by
      intro e
      have h1 := ((HNP.out ▸ hx : w2.ownsRow _ _ _ (.slice a 0 c) _ _).lt _ e).1
      have h2 : (w.alloc (.cells #[.int .i64 kk, .slice ai n ci, .slice ap 0 cp, .slice an names.length cn, .slice ac cls.length cc, .slice al levels.length cl, .int .i64 code, .int .i64 env] 31)).heap.size = w.heap.size + 1 := by simp
      omega)
    have KA2 := Lib.hid (blk_below hb K0.out)
    clear hp hn hr hb hx
    obtain ⟨k0, k1, k2, k3, k4, k5, k6, k7⟩ := vec8 KA2.out
    go_wp2
    clear k0 k1 k2 k3 k4 k5 k6 k7
    go_loopw [3, 18] (fun v i wr => ∃ k : Nat, k ≤ n ∧ i = .int .i64 k ∧ RowV w wr 1 S k v ∧ wr.heap[w.heap.size]? = some (.cells #[.int .i64 kk, .slice ai n ci, .slice ap 0 cp, .slice an names.length cn, .slice ac cls.length cc, .slice al levels.length cl, .int .i64 code, .int .i64 env] 31 (0, 0)) ∧ v.ownBlock ≠ some w.heap.size) (fun _ i _ => n - (intOf i).toNat)
    case atStart => exact ⟨0, Nat.zero_le _, rfl, by rw [HNP.out]; exact ST.out, KA2.out, by rw [HNP.out]; exact NB.out⟩
    case round =>
      obtain ⟨k, hk, rfl, hrv, hka, hnb⟩ := hrel
      have NB := Lib.hid hnb
      clear hnb
      have RV := Lib.hid hrv
      have KA := Lib.hid hka
      clear hrv hka
      by_cases hlt : k < n
      · obtain ⟨ba, off, rfl, hbB, c0, c1, c2⟩ := AI.out _ _ hlt RV.out.below
        have hbw : ba < wr.heap.size := Nat.lt_of_lt_of_le (Nat.lt_of_lt_of_le hbB hhi) RV.out.below.size
        have hz := (Array.getElem?_eq_some_iff.1 KA.out).1
        have hSk := SG.out k hlt
        obtain ⟨⟨xn, xd, xt⟩, hx⟩ : ∃ x : It, items.getD k noI = x := ⟨_, rfl⟩
        have ht : txtI items k = xt := by unfold txtI; rw [hx]
        rw [ht] at c2
        rw [hx] at hSk
        simp only [hx] at c0 c1
        have HSk := Lib.hid hSk
        clear hSk hx ht
        obtain ⟨k0, k1, k2, k3, k4, k5, k6, k7⟩ := vec8 KA.out
        obtain ⟨w1, hw1⟩ : ∃ W, (wr.alloc (.cells #[.int .i64 xn, .int .i64 xd, .string xt] 56)).alloc (.cells #[.int .i64 xn, .int .i64 xd, .string xt] 56) = W := ⟨_, rfl⟩
        have hsz : (wr.alloc (.cells #[.int .i64 xn, .int .i64 xd, .string xt] 56)).heap.size = wr.heap.size + 1 := by simp
        have BW := Lib.hid (show Below wr.heap.size wr w1 from hw1 ▸ (below1 wr _).alloc (by simp) _)
        have KG := Lib.hid (show w1.heap[wr.heap.size + 1]? = some (.cells #[.int .i64 xn, .int .i64 xd, .string xt] 56 (0, 0)) from hw1 ▸ hsz ▸ blk_new (wr.alloc (.cells #[.int .i64 xn, .int .i64 xd, .string xt] 56)) (.cells #[.int .i64 xn, .int .i64 xd, .string xt] 56) rfl)
        have ES := Lib.hid (show w1.heap.size = wr.heap.size + 1 + 1 from hw1 ▸ (by simp))
        have EW := Lib.hid hw1
        clear hw1 hsz
        obtain ⟨xs, hxs⟩ := RV.out.row
        have XS := Lib.hid hxs
        have OR := Lib.hid (ownsRow_below (ownsRow_below hxs BW.out) (below1 w1 (.cells #[.int .i64 kk, .slice (some ⟨wr.heap.size + 1, 0, none⟩) 1 1, .slice none 0 0, .slice none 0 0, .slice none 0 0, .slice none 0 0, .int .i64 0, .int .i64 0] 31)))
        have HO := Lib.hid (show Own 1 (S.getD k noV) (.agg #[.int .i64 kk, .slice (some ⟨wr.heap.size + 1, 0, none⟩) 1 1, .slice none 0 0, .slice none 0 0, .slice none 0 0, .slice none 0 0, .int .i64 0, .int .i64 0]) (wr.heap.size + 1) w1.heap.size w1 from by rw [HSk.out, ES.out]; exact own_one (x := ⟨xn, xd, xt⟩) KG.out)
        have S1 := Lib.hid (show w.heap.size ≤ wr.heap.size from RV.out.below.size)
        have KA1 := Lib.hid (blk_below (below1 w1 (.cells #[.int .i64 kk, .slice (some ⟨wr.heap.size + 1, 0, none⟩) 1 1, .slice none 0 0, .slice none 0 0, .slice none 0 0, .slice none 0 0, .int .i64 0, .int .i64 0] 31)) (blk_below BW.out KA.out))
        clear hxs
        go_wp2_with (at_builtin; rw [EW.out]; refine wpList_append_own_at _ rfl _ _ 29 rfl w.heap.size 31 i0 _ 8 144 Tryd.underlying29 hi0 hz0 hz1 hz2 rfl (by decide) _ k xs rfl OR.out ⟨w1.heap.size, 0, none⟩ 1 1 [.int .i64 kk, .slice (some ⟨wr.heap.size + 1, 0, none⟩) 1 1, .slice none 0 0, .slice none 0 0, .slice none 0 0, .slice none 0 0, .int .i64 0, .int .i64 0] (by rw [ES.out]; rfl) rfl ?c1 ?c2 ?c3 ?c4 ?c5 ?_)
        case c1 =>
          intro j u hj
          have hlt : j < 8 := by have := (List.getElem?_eq_some_iff.1 hj).1; simpa using this
          rw [addr_add, Nat.zero_add]
          refine cellOf (blk_new w1 _ rfl) ?_
          rw [← hj]
          rcases (show j = 0 ∨ j = 1 ∨ j = 2 ∨ j = 3 ∨ j = 4 ∨ j = 5 ∨ j = 6 ∨ j = 7 by omega) with rfl | rfl | rfl | rfl | rfl | rfl | rfl | rfl <;> rfl
        case c2 => intro u hu; simp only [List.mem_cons, List.not_mem_nil, or_false] at hu; rcases hu with rfl | rfl | rfl | rfl | rfl | rfl | rfl | rfl <;> rfl
        case c3 => unfold maxLen; omega
        case c4 => omega
        case c5 => have := S1.out; have := ES.out; simp; omega
        intro v' w3 hown' hgrow _ hwh
        have NBN := Lib.hid (show v'.ownBlock ≠ some w.heap.size from fun e => by
          rcases hwh with h | h
          · exact NB.out (h ▸ e)
          · rw [e] at h; have h2 := Option.some.inj h; have := ES.out; omega)
        have NX := Lib.hid (RV.out.next HO.out (Nat.le_succ _) BW.out hgrow (fun ys hy => ownsRow_same XS.out hy ▸ hown') (by simpa using hwh))
        have KAN := Lib.hid ((hgrow.block w.heap.size (by have := ES.out; simp; omega) (fun e => NB.out e.symm)).trans KA1.out)
        clear hown' hgrow hwh k0 k1 k2 k3 k4 k5 k6 k7
        go_wp2
        go_roundw
        case rel => exact ⟨k + 1, by omega, by go_num, NX.out, KAN.out, NBN.out⟩
        case measure => simp [intOf]; omega
      · obtain rfl : k = n := by omega
        obtain ⟨F, h1, h2, h3⟩ := FIN.out _ _ RV.out
        obtain ⟨a, c, rfl, _, _⟩ := id h1
        have HV := Lib.hid (h1.vecs (lo := w.heap.size) (hi := wr.heap.size) (fun b hb' => h3 b hb'))
        clear h1 h2 h3
        go_wp2
        go_ret
        exact ⟨⟨_, _, 1, by rw [XE.out]; rfl, by rw [XE.out]; exact HV.out, fun i hi => by rw [XE.out] at hi ⊢; exact SS.out i (by have := SL.out; omega)⟩, RV.out.below⟩
end Go.Proofs.YtjpdnabfpiengaaDoor

/- MissingIn of the program. -/
namespace Go.Proofs.YtjpdnabfpiengaaDoor
open Go.RowKit
set_option maxRecDepth 100000
set_option linter.unusedVariables false

def itemsV (v : Vec) : List It := match v with | .mk _ items _ _ _ _ _ _ => items
def namesV (v : Vec) : List ByteArray := match v with | .mk _ _ _ names _ _ _ _ => names
def OneMiss (p : Vec) : Prop := (itemsV p).length = 1 ∧ ((itemsV p).getD 0 noI).d = 0
noncomputable def missI (p : Vec) : Int := match bB (OneMiss p) with | true => 1 | false => 0
theorem miss_three (p : Vec) : L3 (missI p) := by unfold missI L3; split <;> omega
/-- An element whose single item, if missing, is nothing else. -/
def GoodE (p : Vec) : Prop := (itemsV p).length = 1 → ((itemsV p).getD 0 noI).d = 0 → (itemsV p).getD 0 noI = noI
theorem good_elems {v : Vec} (h : ValidV v) {i : Nat} (hi : i < (elems v).length) : GoodE ((elems v).getD i noV) := by
  obtain ⟨k, items, parts, names, cls, levels, code, env⟩ := v
  have hf : FlatOk k items parts.length names cls levels code env := h.1.flat
  by_cases h5 : k = 5
  · subst h5
    rw [elems_fun rfl] at hi ⊢
    obtain rfl : i = 0 := by simpa using hi
    intro h1 _
    have h2 : items.length = 1 := h1
    have := (hf.h_func rfl).1
    omega
  · by_cases h4 : k = 4
    · subst h4
      rw [elems_list] at hi ⊢
      have hp := h.1.2 i hi
      have hp' : IsV 2 (parts.getD i noV) := hp
      obtain ⟨p, hpe⟩ : ∃ p, parts.getD i noV = p := ⟨_, rfl⟩
      rw [hpe] at hp' ⊢
      obtain ⟨k', items', parts', names', cls', levels', code', env'⟩ := p
      have hf' : FlatOk k' items' parts'.length names' cls' levels' code' env' := hp'.flat
      intro h1 h2
      have h1' : items'.length = 1 := h1
      exact (cell_i (hf'.h_items 0 (by omega)).1).1 h2
    · rw [elems_items h5 h4] at hi ⊢
      have hi' : i < items.length := by simpa using hi
      have e : (items.map (fun x => vecOf k [x])).getD i noV = vecOf k [items.getD i noI] := by simp [List.getD_eq_getElem?_getD, hi']
      rw [e]
      intro _ h2
      exact (cell_i (hf.h_items i hi').1).1 h2
theorem elems_len {v : Vec} (h : ValidV v) : (elems v).length ≤ 40 := by
  obtain ⟨k, items, parts, names, cls, levels, code, env⟩ := v
  have hf : FlatOk k items parts.length names cls levels code env := h.1.flat
  have hl := hf.h_len
  unfold lenV at hl
  by_cases h5 : k = 5
  · subst h5; rw [elems_fun rfl]; simp
  · rw [if_neg h5] at hl
    by_cases h4 : k = 4
    · subst h4; rw [elems_list]; omega
    · rw [elems_items h5 h4]; simp; omega
/-- What MissingIn answers. -/
noncomputable def missV (v : Vec) : Vec := match bB (ValidV v) with | true => mkN 1 (itF (fun i => logI (missI ((elems v).getD i noV))) (elems v).length) (namesV v) | false => noV
noncomputable def missS (v : Vec) : ByteArray := match bB (ValidV v) with | true => ⟨#[]⟩ | false => badB
theorem missV_yes {v : Vec} (h : ValidV v) : missV v = mkN 1 (itF (fun i => logI (missI ((elems v).getD i noV))) (elems v).length) (namesV v) := by unfold missV; rw [bB_yes h]
theorem missV_no {v : Vec} (h : ¬ ValidV v) : missV v = noV := by unfold missV; rw [bB_no h]
theorem missS_yes {v : Vec} (h : ValidV v) : missS v = ⟨#[]⟩ := by unfold missS; rw [bB_yes h]
theorem missS_no {v : Vec} (h : ¬ ValidV v) : missS v = badB := by unfold missS; rw [bB_no h]
end Go.Proofs.YtjpdnabfpiengaaDoor

/- NotVector of the reference. -/
namespace Go.Proofs.YtjpdnabfpiengaaDoor
open Go.RowKit
set_option maxRecDepth 100000
set_option linter.unusedVariables false

theorem Own.setNames {k : Int} {l : List It} {c0 c1 c2 c3 c4 c5 c6 c7 : Value} {lo hi lo2 hi2 : Nat} {w : World} (h : Own 1 (vecOf k l) (.agg #[c0, c1, c2, c3, c4, c5, c6, c7]) lo hi w) {names : List ByteArray} {na : Option Addr} {nc : Nat} {Fn : List Nat} (hT : OwnTxs w na names Fn) (hn : Fn.Nodup)
    (hr : ∀ g ∈ Fn, lo2 ≤ g ∧ g < hi2) (hc : names.length ≤ nc) (h1 : hi ≤ lo2) (h2 : lo ≤ lo2) (h3 : hi ≤ hi2) : Own 1 (mkN k l names) (.agg #[c0, c1, c2, .slice na names.length nc, c4, c5, c6, c7]) lo hi2 w := by
  obtain ⟨F, ho, hnd, hrg⟩ := h.out
  change OwnVec w 1 (.mk k l [] [] [] [] 0 0) _ F at ho
  unfold OwnVec at ho
  obtain ⟨ai, ci, ap, cp, an, cn, ac, cc, al, cl, Fi, Fp, F0, Fc, Fl, e, rfl, hC, i1, i2, i3, i4, i5⟩ := ho
  simp only [Value.agg.injEq, Array.mk.injEq, List.cons.injEq, and_true] at e
  obtain ⟨rfl, rfl, rfl, rfl, rfl, rfl, rfl, rfl⟩ := e
  refine ⟨Fi ++ (Fp ++ (Fn ++ (Fc ++ Fl))), ?_, ?_, ?_⟩
  · show OwnVec w 1 (.mk k l [] names [] [] 0 0) _ _
    unfold OwnVec
    exact ⟨ai, ci, ap, cp, na, nc, ac, cc, al, cl, Fi, Fp, Fn, Fc, Fl, rfl, rfl, ⟨hC.1, hC.2.1, hc, hC.2.2.2.1, hC.2.2.2.2⟩, i1, hT, i3, i4, i5⟩
  · have D : ∀ g, (g ∈ Fi ∨ g ∈ Fp ∨ g ∈ Fc ∨ g ∈ Fl) → g ∉ Fn := fun g hg hm => by
      have h4 := hr g hm
      have h5 := hrg g (by simp only [List.mem_append]; grind)
      omega
    simp only [List.nodup_append, List.mem_append] at hnd ⊢
    grind
  · intro g hg
    simp only [List.mem_append] at hg
    by_cases hm : g ∈ Fn
    · have := hr g hm; omega
    · have := hrg g (by simp only [List.mem_append]; grind); omega
theorem Own.belowB {d : Nat} {V : Vec} {y : Value} {lo hi B : Nat} {w w' : World} (h : Own d V y lo hi w) (hb : Below B w w') (hh : hi ≤ B) : Own d V y lo hi w' := by
  obtain ⟨F, h1, h2, h3⟩ := h.out
  exact ⟨F, h1.kept _ _ _ _ (fun b hm => hb.block b (by have := h3 b hm; omega)), h2, h3⟩
theorem Own.setOut {d : Nat} {V : Vec} {y u : Value} {lo hi b j : Nat} {w : World} (h : Own d V y lo hi w) (hh : hi ≤ b) : Own d V y lo hi (w.setCell ⟨b, j, none⟩ u) := by
  obtain ⟨F, h1, h2, h3⟩ := h.out
  exact ⟨F, h1.kept _ _ _ _ (fun g hm => Below.heap_setCell _ _ _ _ (by have := h3 g hm; show g ≠ b; omega)), h2, h3⟩
/-- The ints while they are turned over, one by one. -/
def TurnL (w wr : World) (sa : Option Addr) (n k : Nat) (f : Nat → Int) : Prop :=
  n = 0 ∨ ∃ b C, sa = some ⟨b, 0, none⟩ ∧ w.heap.size + 2 ≤ b ∧ wr.heap[b]? = some (.cells C 3 (0, 0)) ∧ n ≤ C.size ∧ ∀ i, i < n → C[i]? = some (.int .i64 (if i < k then nL (f i) else f i))
theorem TurnL.start {w wr : World} {B : Nat} {sa : Option Addr} {n c : Nat} {f : Nat → Int} (h : wr.ownsRow B 3 1 (.slice sa n c) n (intsF f n)) (hB : w.heap.size + 2 ≤ B) : TurnL w wr sa n 0 f := by
  obtain ⟨_, h⟩ := h
  rcases h with ⟨e, h0⟩ | ⟨g, cap, cur, e, hg, hb, hc, _, hs, ht⟩
  · exact .inl h0
  · simp only [Value.slice.injEq] at e
    obtain ⟨rfl, _, rfl⟩ := e
    refine .inr ⟨g, cur, rfl, by omega, hb, by omega, fun i hi => ?_⟩
    have h1 : (cur.toList.take (n * 1))[i]? = (intsF f n)[i]? := by rw [ht]
    rw [List.getElem?_take_of_lt (by omega), Array.getElem?_toList] at h1
    rw [h1, if_neg (Nat.not_lt_zero i)]; unfold intsF; simp [hi]
theorem TurnL.ints {w wr : World} {sa : Option Addr} {n : Nat} {f : Nat → Int} (h : TurnL w wr sa n n f) : IntsAt wr.heap.size wr sa n (fun i => nL (f i)) := by
  rcases h with rfl | ⟨b, C, rfl, _, hb, hn, r⟩
  · exact fun i hi => absurd hi (Nat.not_lt_zero _)
  · intro i hi
    refine ⟨b, 0, rfl, (Array.getElem?_eq_some_iff.1 hb).1, ?_⟩
    rw [Nat.zero_add]
    have := r i hi
    rw [if_pos hi] at this
    exact cellOf hb this
end Go.Proofs.YtjpdnabfpiengaaDoor

/- Lengths and names of a recycled result, in the reference. -/
namespace Go.Proofs.YtjpdnabfpiengaaDoor
open Go.RowKit
set_option maxRecDepth 100000
set_option linter.unusedVariables false

def namesL (l0 l1 n : Nat) (names0 names1 : List ByteArray) : List ByteArray := if l0 = n ∧ 0 < names0.length then names0 else if l1 = n then names1 else []
def sizeL (m n : Nat) : Int := if m = 0 ∨ n = 0 then 0 else if max m n % min m n ≠ 0 then -1 else (max m n : Nat)
end Go.Proofs.YtjpdnabfpiengaaDoor

/- Lengths and names of a recycled result, in the program. -/
namespace Go.Proofs.YtjpdnabfpiengaaDoor
open Go.RowKit
set_option maxRecDepth 100000
set_option linter.unusedVariables false

def recN (m n : Nat) : Nat := if m = 0 ∨ n = 0 then 0 else max m n
theorem CopyTx.low {base base' : Nat} {l : List ByteArray} {v : Value} {w : World} (h : CopyTx base l v w) (hb : base' ≤ base) : CopyTx base' l v w := by
  obtain ⟨sa, sc, F, e, h1, h2, h3, h4⟩ := h
  exact ⟨sa, sc, F, e, h1, h2, fun b hb' => by have := h3 b hb'; omega, h4⟩
/-- The names of a recycled result, as the program finds them. -/
def namesR (N : Nat) (names0 names1 : List ByteArray) : List ByteArray := if N = names0.length then names0 else if N = names1.length then names1 else []
/-- Where a vector has no names or as many as elements, both ways to find them agree. -/
theorem names_same {m n : Nat} {names0 names1 : List ByteArray} (h0 : names0.length = 0 ∨ names0.length = m) (h1 : names1.length = 0 ∨ names1.length = n) : namesR (recN m n) names0 names1 = namesL m n (recN m n) names0 names1 := by
  have e0 : names0.length = 0 → names0 = [] := List.eq_nil_of_length_eq_zero
  have e1 : names1.length = 0 → names1 = [] := List.eq_nil_of_length_eq_zero
  obtain ⟨N, hN⟩ : ∃ N, recN m n = N := ⟨_, rfl⟩
  have hN0 : N = 0 ∨ 0 < N := by omega
  have hz : N = 0 → m = 0 ∨ n = 0 := fun h => by
    subst h
    unfold recN at hN
    by_cases hh : m = 0 ∨ n = 0
    · exact hh
    · rw [if_neg hh] at hN
      omega
  have hz2 : 0 < N → 0 < m ∧ 0 < n := fun h => by
    unfold recN at hN
    by_cases hh : m = 0 ∨ n = 0
    · rw [if_pos hh] at hN; omega
    · omega
  rw [hN]
  unfold namesR namesL
  repeat' split
  all_goals first
    | rfl
    | (exfalso; omega)
    | exact e0 (by omega)
    | exact e1 (by omega)
    | exact (e0 (by omega)).symm
    | exact (e1 (by omega)).symm
    | exact (e0 (by omega)).trans (e1 (by omega)).symm
    | exact (e1 (by omega)).trans (e0 (by omega)).symm
end Go.Proofs.YtjpdnabfpiengaaDoor

/- recycleItems of the program. -/
namespace Go.Proofs.YtjpdnabfpiengaaDoor
open Go.RowKit
set_option maxRecDepth 100000
set_option linter.unusedVariables false

theorem ItR.form {w wr : World} {l : List It} {v : Value} (h : ItR w wr l v) : ∃ s n c, v = .slice s n c := by
  obtain ⟨_, h | ⟨g, cap, cur, e, _⟩⟩ := h.row
  · exact ⟨_, _, _, h.1⟩
  · exact ⟨_, _, _, e⟩
theorem recN_pos {m n : Nat} (h : 0 < recN m n) : 0 < m ∧ 0 < n := by
  unfold recN at h
  by_cases h0 : m = 0 ∨ n = 0
  · rw [if_pos h0] at h; omega
  · omega
theorem recN_le {m n : Nat} (hm : m ≤ 40) (hn : n ≤ 40) : recN m n ≤ 40 := by
  unfold recN
  split <;> omega
end Go.Proofs.YtjpdnabfpiengaaDoor

/- Summaries as data: the elements that are taken, folds, the answers. -/
namespace Go.Proofs.YtjpdnabfpiengaaDoor
open Go.RowKit
set_option maxRecDepth 100000
set_option linter.unusedVariables false

/-- "non-numeric argument", "no elements" -/
def nonNumB : ByteArray := ⟨#[110, 111, 110, 45, 110, 117, 109, 101, 114, 105, 99, 32, 97, 114, 103, 117, 109, 101, 110, 116]⟩
def noElB : ByteArray := ⟨#[110, 111, 32, 101, 108, 101, 109, 101, 110, 116, 115]⟩
/-- Is an element taken? -/
def keepI (drop : Bool) (x : It) : Bool := !drop || !(x.d == 0)
def pickL (drop : Bool) (l : List It) : List It := l.filter (keepI drop)
theorem pickL_no (l : List It) : pickL false l = l := by
  unfold pickL
  rw [List.filter_eq_self]
  intro x _
  rfl
theorem pickL_len (drop : Bool) (l : List It) : (pickL drop l).length ≤ l.length := List.length_filter_le _ _
theorem pickL_mem {drop : Bool} {l : List It} {x : It} (h : x ∈ pickL drop l) : x ∈ l := (List.mem_filter.1 h).1
theorem take_one {l : List It} {k : Nat} (hk : k < l.length) : l.take (k + 1) = l.take k ++ [l.getD k noI] := by
  rw [List.take_add_one, List.getElem?_eq_getElem hk, List.getD_eq_getElem?_getD, List.getElem?_eq_getElem hk]
  rfl
theorem pickL_yes {drop : Bool} {l : List It} {k : Nat} (hk : k < l.length) (h : keepI drop (l.getD k noI) = true) : pickL drop (l.take k) ++ [l.getD k noI] = pickL drop (l.take (k + 1)) := by
  rw [take_one hk]
  unfold pickL
  rw [List.filter_append, List.filter_cons, if_pos h, List.filter_nil]
theorem pickL_skip {drop : Bool} {l : List It} {k : Nat} (hk : k < l.length) (h : keepI drop (l.getD k noI) = false) : pickL drop (l.take k) = pickL drop (l.take (k + 1)) := by
  rw [take_one hk]
  unfold pickL
  rw [List.filter_append, List.filter_cons, if_neg (by rw [h]; decide), List.filter_nil, List.append_nil]
theorem pickL_zero (drop : Bool) (l : List It) : pickL drop (l.take 0) = [] := by rw [List.take_zero]; rfl
theorem pickL_kept (drop : Bool) (l : List It) (k : Nat) : (pickL drop (l.take k)).length ≤ k := Nat.le_trans (pickL_len _ _) (by rw [List.length_take]; omega)
theorem fold_one {α : Type} (f : α → It → α) (s : α) {l : List It} {k : Nat} (hk : k < l.length) : (l.take (k + 1)).foldl f s = f ((l.take k).foldl f s) (l.getD k noI) := by
  rw [take_one hk, List.foldl_append]; rfl
theorem fold_zero {α : Type} (f : α → It → α) (s : α) (l : List It) : (l.take 0).foldl f s = s := by rw [List.take_zero]; rfl
theorem fold_full {α : Type} (f : α → It → α) (s : α) (l : List It) : (l.take l.length).foldl f s = l.foldl f s := by rw [List.take_length]

theorem mkI_int {n : Int} (h0 : -999999999 ≤ n) (h1 : n ≤ 999999999) : mkI n 1 = ⟨n, 1, ⟨#[]⟩⟩ := by
  rw [int_mk (by omega) (by omega)]
  unfold ofQ
  rw [Rat.num_intCast, Rat.den_intCast, if_pos ⟨h0, h1, by decide⟩]
  rfl
/-- A result that fits: no text, ints. -/
def GoodI (x : It) : Prop := InB x ∧ x.t = ⟨#[]⟩
theorem good_noI : GoodI noI := ⟨⟨⟨by decide, by decide⟩, ⟨by decide, by decide⟩, Nat.zero_le _⟩, rfl⟩
theorem good_ofQ (r : Rat) : GoodI (ofQ r) := by
  rcases ofQ_cases r with e | ⟨h, _⟩
  · rw [e]; exact good_noI
  · obtain ⟨ht, d0, d1, n0, n1, _⟩ := isN_iff.1 h
    exact ⟨⟨⟨by omega, by omega⟩, ⟨by omega, by omega⟩, by rw [ht]; exact Nat.zero_le _⟩, ht⟩
theorem good_mkI (n d : Int) : GoodI (mkI n d) := by unfold mkI; split; exact good_ofQ _; exact good_noI
theorem good_addI (x y : It) : GoodI (addI x y) := by unfold addI; split; exact good_ofQ _; exact good_noI
theorem good_mulI (x y : It) : GoodI (mulI x y) := by unfold mulI; split; exact good_ofQ _; exact good_noI
theorem good_divI (x y : It) : GoodI (divI x y) := by unfold divI; split; exact good_ofQ _; exact good_noI
theorem good_subI (x y : It) : GoodI (subI x y) := good_addI _ _
theorem good_fold {f : It → It → It} {s : It} (h : ∀ x y, GoodI (f x y)) (hs : GoodI s) (l : List It) : GoodI (l.foldl f s) := by
  induction l generalizing s with
  | nil => exact hs
  | cons x l ih => exact ih (h _ _)
theorem GoodI.t0 {x : It} (h : GoodI x) : x.t.size ≤ 9223372036854775807 := by rw [h.2]; exact Nat.zero_le _

def sumL (l : List It) : It := l.foldl addI (mkI 0 1)
def prodL (l : List It) : It := l.foldl mulI (mkI 1 1)
def meanL (l : List It) : It := divI (sumL l) (mkI l.length 1)
def sqI (m : It) (s x : It) : It := addI s (mulI (subI x m) (subI x m))
def varL (l : List It) : It := divI (l.foldl (sqI (meanL l)) (mkI 0 1)) (mkI ((l.length - 1 : Nat) : Int) 1)
theorem good_sumL (l : List It) : GoodI (sumL l) := good_fold good_addI (good_mkI _ _) l
theorem good_prodL (l : List It) : GoodI (prodL l) := good_fold good_mulI (good_mkI _ _) l
theorem good_meanL (l : List It) : GoodI (meanL l) := good_divI _ _
theorem good_varL (l : List It) : GoodI (varL l) := good_divI _ _
theorem varL_few {l : List It} (h : l.length < 2) : varL l = noI := by
  unfold varL
  rw [show l.length - 1 = 0 by omega]
  unfold divI
  rw [if_neg]
  rintro ⟨_, h⟩
  exact h (by decide)
/-- The running sums. -/
def runL (l : List It) : List It := itF (fun i => sumL (l.take (i + 1))) l.length
theorem sumL_one {l : List It} {k : Nat} (hk : k < l.length) : sumL (l.take (k + 1)) = addI (sumL (l.take k)) (l.getD k noI) := fold_one addI _ hk
theorem sumL_zero (l : List It) : sumL (l.take 0) = mkI 0 1 := fold_zero _ _ _
theorem sumL_full (l : List It) : sumL (l.take l.length) = sumL l := by rw [List.take_length]

/-- The elements of which a summary is made, the problem, the answer. -/
noncomputable def smyL (drop : Bool) (v : Vec) : List It := match bB (ValidV v ∧ Counts v) with | true => pickL drop (itemsV v) | false => []
noncomputable def smyS (u : ByteArray) (v : Vec) : ByteArray := match bB (ValidV v), bB (Counts v) with | false, _ => badB | true, false => u | true, true => ⟨#[]⟩
noncomputable def smyV (S : List It → It) (drop : Bool) (v : Vec) : Vec := match bB (ValidV v ∧ Counts v) with | true => vecOf 2 [S (pickL drop (itemsV v))] | false => noV
theorem smy_yes {v : Vec} (h : ValidV v) (hc : Counts v) (S : List It → It) (drop : Bool) (u : ByteArray) : smyL drop v = pickL drop (itemsV v) ∧ smyS u v = ⟨#[]⟩ ∧ smyV S drop v = vecOf 2 [S (pickL drop (itemsV v))] := by
  unfold smyL smyS smyV
  rw [bB_yes (show ValidV v ∧ Counts v from ⟨h, hc⟩), bB_yes h, bB_yes hc]
  exact ⟨rfl, rfl, rfl⟩
theorem smy_non {v : Vec} (h : ValidV v) (hc : ¬ Counts v) (S : List It → It) (drop : Bool) (u : ByteArray) : smyL drop v = [] ∧ smyS u v = u ∧ smyV S drop v = noV := by
  unfold smyL smyS smyV
  rw [bB_no (show ¬ (ValidV v ∧ Counts v) from fun x => hc x.2), bB_yes h, bB_no hc]
  exact ⟨rfl, rfl, rfl⟩
theorem smy_bad {v : Vec} (h : ¬ ValidV v) (S : List It → It) (drop : Bool) (u : ByteArray) : smyL drop v = [] ∧ smyS u v = badB ∧ smyV S drop v = noV := by
  unfold smyL smyS smyV
  rw [bB_no (show ¬ (ValidV v ∧ Counts v) from fun x => h x.1), bB_no h]
  exact ⟨rfl, rfl, rfl⟩
theorem plain_one {x : It} (h : GoodI x) (k : Int) (hk : -9223372036854775808 ≤ k ∧ k ≤ 9223372036854775807) : PlainN (vecOf k [x]) :=
  .inr ⟨k, [x], [], rfl, hk, by simp, fun y hy => by obtain rfl := List.mem_singleton.1 hy; exact ⟨h.1, by rw [h.2]; exact Nat.zero_le _⟩, Nat.zero_le _, fun s hs => by cases hs⟩
theorem numIt_no : NumIt noI := ⟨rfl, by decide, by decide, by decide, by decide, fun _ => rfl⟩
theorem smyL_num (drop : Bool) (v : Vec) : ∀ x ∈ smyL drop v, NumIt x := by
  intro x hx
  unfold smyL at hx
  by_cases h : ValidV v ∧ Counts v
  · rw [bB_yes h] at hx
    have h1 := pickL_mem hx
    obtain ⟨k, items, parts, names, cls, levels, code, env⟩ := v
    obtain ⟨i, hi, rfl⟩ := List.getElem_of_mem h1
    have := num_at h.1 h.2 (i := i) hi
    rw [List.getD_eq_getElem?_getD, List.getElem?_eq_getElem (show i < items.length from hi)] at this
    exact this
  · rw [bB_no h] at hx; cases hx
theorem smyL_at (drop : Bool) (v : Vec) (i : Nat) : NumIt ((smyL drop v).getD i noI) := by
  rw [List.getD_eq_getElem?_getD]
  by_cases h : i < (smyL drop v).length
  · rw [List.getElem?_eq_getElem h]; exact smyL_num drop v _ (List.getElem_mem h)
  · rw [List.getElem?_eq_none (by omega)]; exact numIt_no
theorem smyL_len (drop : Bool) (v : Vec) : (smyL drop v).length ≤ 40 := by
  unfold smyL
  by_cases h : ValidV v ∧ Counts v
  · rw [bB_yes h]
    refine Nat.le_trans (pickL_len _ _) ?_
    obtain ⟨k, items, parts, names, cls, levels, code, env⟩ := v
    exact count_len h.1 h.2
  · rw [bB_no h]; exact Nat.zero_le _
theorem NumIt.t0 {x : It} (h : NumIt x) : x.t.size ≤ 9223372036854775807 := by rw [h.t]; exact Nat.zero_le _
theorem smy_empty {u : ByteArray} (hu : ¬ u = ⟨#[]⟩) {v : Vec} (h : smyS u v = ⟨#[]⟩) : ValidV v ∧ Counts v := by
  by_cases q : ValidV v
  · by_cases hc : Counts v
    · exact ⟨q, hc⟩
    · rw [(smy_non q hc (fun _ => noI) false u).2.1] at h; exact absurd h hu
  · rw [(smy_bad q (fun _ => noI) false u).2.1] at h; exact absurd h (by decide)
theorem smy_val {u : ByteArray} (hu : ¬ u = ⟨#[]⟩) {v : Vec} (h : smyS u v = ⟨#[]⟩) (S : List It → It) (drop : Bool) : smyV S drop v = vecOf 2 [S (smyL drop v)] := by
  obtain ⟨a, b⟩ := smy_empty hu h
  have := smy_yes a b S drop u
  rw [this.2.2, this.1]
theorem smy_not {u : ByteArray} {v : Vec} (h : ¬ smyS u v = ⟨#[]⟩) (S : List It → It) (drop : Bool) : smyV S drop v = noV ∧ smyL drop v = [] := by
  by_cases q : ValidV v
  · by_cases hc : Counts v
    · exact absurd (smy_yes q hc S drop u).2.1 h
    · exact ⟨(smy_non q hc S drop u).2.2, (smy_non q hc S drop u).1⟩
  · exact ⟨(smy_bad q S drop u).2.2, (smy_bad q S drop u).1⟩
theorem smy_plain {S : List It → It} (hS : ∀ l, GoodI (S l)) (drop : Bool) (v : Vec) : PlainN (smyV S drop v) := by
  unfold smyV
  split
  · exact plain_one (hS _) 2 (by decide)
  · exact .inl rfl
end Go.Proofs.YtjpdnabfpiengaaDoor
