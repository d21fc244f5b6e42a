/- MissingIn of the program. -/
import Derived.Test.YtpekdmocgjjhnaaGreatRows
import Derived.Test.YtpekdmocgjjhnaaGreatMz1
import Derived.Test.YtpekdmocgjjhnaaGreatVecIt
import Derived.Test.YtpekdmocgjjhnaaGreatNumMath
import Derived.Test.YtpekdmocgjjhnaaGreatVecCntI
import Derived.Test.YtpekdmocgjjhnaaGreatVecStrI
import Derived.WalkKit
import Derived.OwnWalk
import Derived.Deep.DeepCutAuto
import Derived.Lib.Hide
import Derived.Maps.AppendAt
import Derived.IntWalk
import Derived.Laws.EntriesVeiled
import Derived.RegionTactic
import Derived.ChangeAlike
import Derived.Shelf.Abstract
import Derived.Lib.SliceRun
import Derived.Laws.CopyOwn
import Derived.Laws.MakeOwn
namespace Go.Proofs.YtpekdmocgjjhnaaGreat
open Go.RowKit
set_option maxRecDepth 100000
set_option linter.unusedVariables false

def itemsV (v : Vec) : List It := match v with | .mk _ items _ _ _ _ _ _ => items
def namesV (v : Vec) : List ByteArray := match v with | .mk _ _ _ names _ _ _ _ => names
def OneMiss (p : Vec) : Prop := (itemsV p).length = 1 ∧ ((itemsV p).getD 0 noI).d = 0
noncomputable def missI (p : Vec) : Int := match bB (OneMiss p) with | true => 1 | false => 0
/-- An element whose single item, if missing, is nothing else. -/
def GoodE (p : Vec) : Prop := (itemsV p).length = 1 → ((itemsV p).getD 0 noI).d = 0 → (itemsV p).getD 0 noI = noI
/-- What MissingIn answers. -/
noncomputable def missV (v : Vec) : Vec := match bB (ValidV v) with | true => mkN 1 (itF (fun i => logI (missI ((elems v).getD i noV))) (elems v).length) (namesV v) | false => noV
noncomputable def missS (v : Vec) : ByteArray := match bB (ValidV v) with | true => ⟨#[]⟩ | false => badB
end Go.Proofs.YtpekdmocgjjhnaaGreat

/- NotVector of the reference. -/
namespace Go.Proofs.YtpekdmocgjjhnaaGreat
open Go.RowKit
set_option maxRecDepth 100000
set_option linter.unusedVariables false

/-- The ints while they are turned over, one by one. -/
def TurnL (w wr : World) (sa : Option Addr) (n k : Nat) (f : Nat → Int) : Prop :=
  n = 0 ∨ ∃ b C, sa = some ⟨b, 0, none⟩ ∧ w.heap.size + 2 ≤ b ∧ wr.heap[b]? = some (.cells C 3 (0, 0)) ∧ n ≤ C.size ∧ ∀ i, i < n → C[i]? = some (.int .i64 (if i < k then nL (f i) else f i))
theorem TurnL.start {w wr : World} {B : Nat} {sa : Option Addr} {n c : Nat} {f : Nat → Int} (h : wr.ownsRow B 3 1 (.slice sa n c) n (intsF f n)) (hB : w.heap.size + 2 ≤ B) : TurnL w wr sa n 0 f := by
  obtain ⟨_, h⟩ := h
  rcases h with ⟨e, h0⟩ | ⟨g, cap, cur, e, hg, hb, hc, _, hs, ht⟩
  · exact .inl h0
  · simp only [Value.slice.injEq] at e
    obtain ⟨rfl, _, rfl⟩ := e
    refine .inr ⟨g, cur, rfl, by omega, hb, by omega, fun i hi => ?_⟩
    have h1 : (cur.toList.take (n * 1))[i]? = (intsF f n)[i]? := by rw [ht]
    rw [List.getElem?_take_of_lt (by omega), Array.getElem?_toList] at h1
    rw [h1, if_neg (Nat.not_lt_zero i)]; unfold intsF; simp [hi]
theorem TurnL.ints {w wr : World} {sa : Option Addr} {n : Nat} {f : Nat → Int} (h : TurnL w wr sa n n f) : IntsAt wr.heap.size wr sa n (fun i => nL (f i)) := by
  rcases h with rfl | ⟨b, C, rfl, _, hb, hn, r⟩
  · exact fun i hi => absurd hi (Nat.not_lt_zero _)
  · intro i hi
    refine ⟨b, 0, rfl, (Array.getElem?_eq_some_iff.1 hb).1, ?_⟩
    rw [Nat.zero_add]
    have := r i hi
    rw [if_pos hi] at this
    exact cellOf hb this
end Go.Proofs.YtpekdmocgjjhnaaGreat

/- Lengths and names of a recycled result, in the reference. -/
namespace Go.Proofs.YtpekdmocgjjhnaaGreat
open Go.RowKit
set_option maxRecDepth 100000
set_option linter.unusedVariables false

def namesL (l0 l1 n : Nat) (names0 names1 : List ByteArray) : List ByteArray := if l0 = n ∧ 0 < names0.length then names0 else if l1 = n then names1 else []
def sizeL (m n : Nat) : Int := if m = 0 ∨ n = 0 then 0 else if max m n % min m n ≠ 0 then -1 else (max m n : Nat)
end Go.Proofs.YtpekdmocgjjhnaaGreat

/- Lengths and names of a recycled result, in the program. -/
namespace Go.Proofs.YtpekdmocgjjhnaaGreat
open Go.RowKit
set_option maxRecDepth 100000
set_option linter.unusedVariables false

def recN (m n : Nat) : Nat := if m = 0 ∨ n = 0 then 0 else max m n
theorem CopyTx.low {base base' : Nat} {l : List ByteArray} {v : Value} {w : World} (h : CopyTx base l v w) (hb : base' ≤ base) : CopyTx base' l v w := by
  obtain ⟨sa, sc, F, e, h1, h2, h3, h4⟩ := h
  exact ⟨sa, sc, F, e, h1, h2, fun b hb' => by have := h3 b hb'; omega, h4⟩
/-- The names of a recycled result, as the program finds them. -/
def namesR (N : Nat) (names0 names1 : List ByteArray) : List ByteArray := if N = names0.length then names0 else if N = names1.length then names1 else []
end Go.Proofs.YtpekdmocgjjhnaaGreat

/- recycleItems of the program. -/
namespace Go.Proofs.YtpekdmocgjjhnaaGreat
open Go.RowKit
set_option maxRecDepth 100000
set_option linter.unusedVariables false

theorem ItR.form {w wr : World} {l : List It} {v : Value} (h : ItR w wr l v) : ∃ s n c, v = .slice s n c := by
  obtain ⟨_, h | ⟨g, cap, cur, e, _⟩⟩ := h.row
  · exact ⟨_, _, _, h.1⟩
  · exact ⟨_, _, _, e⟩
end Go.Proofs.YtpekdmocgjjhnaaGreat

/- Summaries as data: the elements that are taken, folds, the answers. -/
namespace Go.Proofs.YtpekdmocgjjhnaaGreat
open Go.RowKit
set_option maxRecDepth 100000
set_option linter.unusedVariables false

/-- "non-numeric argument", "no elements" -/
def nonNumB : ByteArray := ⟨#[110, 111, 110, 45, 110, 117, 109, 101, 114, 105, 99, 32, 97, 114, 103, 117, 109, 101, 110, 116]⟩
def noElB : ByteArray := ⟨#[110, 111, 32, 101, 108, 101, 109, 101, 110, 116, 115]⟩
/-- Is an element taken? -/
def keepI (drop : Bool) (x : It) : Bool := !drop || !(x.d == 0)
def pickL (drop : Bool) (l : List It) : List It := l.filter (keepI drop)
theorem mkI_int {n : Int} (h0 : -999999999 ≤ n) (h1 : n ≤ 999999999) : mkI n 1 = ⟨n, 1, ⟨#[]⟩⟩ := by
  rw [int_mk (by omega) (by omega)]
  unfold ofQ
  rw [Rat.num_intCast, Rat.den_intCast, if_pos ⟨h0, h1, by decide⟩]
  rfl
/-- A result that fits: no text, ints. -/
def GoodI (x : It) : Prop := InB x ∧ x.t = ⟨#[]⟩
theorem GoodI.t0 {x : It} (h : GoodI x) : x.t.size ≤ 9223372036854775807 := by rw [h.2]; exact Nat.zero_le _

def sumL (l : List It) : It := l.foldl addI (mkI 0 1)
def prodL (l : List It) : It := l.foldl mulI (mkI 1 1)
def meanL (l : List It) : It := divI (sumL l) (mkI l.length 1)
def sqI (m : It) (s x : It) : It := addI s (mulI (subI x m) (subI x m))
def varL (l : List It) : It := divI (l.foldl (sqI (meanL l)) (mkI 0 1)) (mkI ((l.length - 1 : Nat) : Int) 1)
/-- The running sums. -/
def runL (l : List It) : List It := itF (fun i => sumL (l.take (i + 1))) l.length
/-- The elements of which a summary is made, the problem, the answer. -/
noncomputable def smyL (drop : Bool) (v : Vec) : List It := match bB (ValidV v ∧ Counts v) with | true => pickL drop (itemsV v) | false => []
noncomputable def smyS (u : ByteArray) (v : Vec) : ByteArray := match bB (ValidV v), bB (Counts v) with | false, _ => badB | true, false => u | true, true => ⟨#[]⟩
noncomputable def smyV (S : List It → It) (drop : Bool) (v : Vec) : Vec := match bB (ValidV v ∧ Counts v) with | true => vecOf 2 [S (pickL drop (itemsV v))] | false => noV
theorem NumIt.t0 {x : It} (h : NumIt x) : x.t.size ≤ 9223372036854775807 := by rw [h.t]; exact Nat.zero_le _
end Go.Proofs.YtpekdmocgjjhnaaGreat

/- The problem of one operand, in the program; an item that is appended. -/
namespace Go.Proofs.YtpekdmocgjjhnaaGreat
open Go.RowKit
set_option maxRecDepth 100000
set_option linter.unusedVariables false

/-- An item that is appended to a local slice, where the region does not draw its order. -/
theorem wpList_appIt {w0 w : World} {ops : Array Oper} {rest : List Oper} {o : Oper} {a : Act} {Q : Exit → Act → World → Prop} (hgd : o.guard = none) (s x : Operand)
    (ho : o.op = .call { callee := .builtin .append, args := #[s, x], argTypes := #[28, 28] }) (z : It) (l : List It) (v0 : Value) (b : Nat) (hs : a.eval s = v0) (hx : a.eval x = .slice (some ⟨b, 0, none⟩) 1 1)
    (hr : ItR w0 w l v0) (hb : w.heap[b]? = some (.cells #[.int .i64 z.n, .int .i64 z.d, .string z.t] 66 (0, 0))) (hn : l.length ≤ 1048576)
    (h : ∀ v' w', ItR w0 w' (l ++ [z]) v' → wpList Tryz.prog ops Q rest (a.put o.dst v') w') : wpList Tryz.prog ops Q (o :: rest) a w := by
  obtain ⟨i0, hi0, hz0, hz1, hz2⟩ := info_parts infoItm3
  refine wpList_append_own w hgd s x 28 ho w0.heap.size 66 i0 _ 3 32 Tryz.underlying28 hi0 hz0 hz1 hz2 rfl (by decide) v0 l.length (itCells l) hs hr.row ⟨b, 0, none⟩ 1 1 (itCells [z]) hx rfl (fun j u hj => ?_) (itCells_one _) (by unfold maxLen; omega) (by omega) hr.below.size (fun v' w' h1 h2 _ => ?_)
  · have hlt : j < 3 := by have := (List.getElem?_eq_some_iff.1 hj).1; simpa [itCells] using this
    rw [addr_add, Nat.zero_add]
    refine cellOf hb ?_
    rw [← hj]
    rcases (show j = 0 ∨ j = 1 ∨ j = 2 by omega) with rfl | rfl | rfl <;> rfl
  · have e1 : l.length + 1 = (l ++ [z]).length := by simp
    have e2 : itCells l ++ itCells [z] = itCells (l ++ [z]) := (itCells_app l [z]).symm
    rw [e1, e2] at h1
    exact h v' w' ⟨h1, hr.below.grown h2 hr.below.size (fun r hr' => (hr.row.lt r hr').1)⟩
end Go.Proofs.YtpekdmocgjjhnaaGreat

/- Elements selected by indexes: selectFrom at items, texts and vectors, knownNames. -/
namespace Go.Proofs.YtpekdmocgjjhnaaGreat
open Go.RowKit
set_option maxRecDepth 100000
set_option linter.unusedVariables false

/-- The elements at the indexes; none of a list without elements. -/
def pkL {α : Type} (z : α) (l : List α) (idx : List Nat) : List α := match l with | [] => [] | _ :: _ => idx.map (fun i => l.getD i z)
theorem pkL_some {α : Type} {z : α} {l : List α} {idx : List Nat} (h : l.length ≠ 0) : pkL z l idx = idx.map (fun i => l.getD i z) := by
  cases l with
  | nil => exact absurd rfl h
  | cons x l => rfl
/-- The first k of them. -/
def pkF {α : Type} (z : α) (l : List α) (idx : List Nat) (k : Nat) : List α := (idx.take k).map (fun i => l.getD i z)
theorem pkF_zero {α : Type} (z : α) (l : List α) (idx : List Nat) : pkF z l idx 0 = [] := by unfold pkF; simp
theorem pkF_succ {α : Type} (z : α) (l : List α) (idx : List Nat) {k : Nat} (h : k < idx.length) : pkF z l idx (k + 1) = pkF z l idx k ++ [l.getD (idx.getD k 0) z] := by
  unfold pkF
  rw [List.take_add_one, List.map_append]
  simp [List.getD_eq_getElem?_getD, h]
theorem pkF_full {α : Type} {z : α} {l : List α} {idx : List Nat} (h : l.length ≠ 0) : pkF z l idx idx.length = pkL z l idx := by rw [pkL_some h]; unfold pkF; rw [List.take_length]
theorem pkF_len {α : Type} (z : α) (l : List α) (idx : List Nat) (k : Nat) : (pkF z l idx k).length ≤ k := by unfold pkF; simp; omega
/-- Indexes as ints. -/
def ixF (idx : List Nat) (i : Nat) : Int := ((idx.getD i 0 : Nat) : Int)
/-- What a loop that appends texts to a local slice keeps. -/
structure TxZ (w wr : World) (l : List ByteArray) (v : Value) : Prop where
  row : wr.ownsRow w.heap.size 9 1 v l.length (l.map Value.string)
  below : Below w.heap.size w wr
theorem TxZ.keep {w wr w1 : World} {l : List ByteArray} {v : Value} (h : TxZ w wr l v) (hb : Below wr.heap.size wr w1) : TxZ w w1 l v := ⟨ownsRow_below h.row hb, below_then h.below hb⟩
theorem TxZ.nil (w wr : World) (hb : Below w.heap.size w wr) : TxZ w wr [] (.slice none 0 0) := ⟨⟨rfl, .inl ⟨rfl, rfl⟩⟩, hb⟩
theorem ItR.nil (w wr : World) (hb : Below w.heap.size w wr) : ItR w wr [] (.slice none 0 0) := ⟨⟨rfl, .inl ⟨rfl, rfl⟩⟩, hb⟩
theorem wpList_appTx {w0 w : World} {ops : Array Oper} {rest : List Oper} {o : Oper} {a : Act} {Q : Exit → Act → World → Prop} (hgd : o.guard = none) (s x : Operand)
    (ho : o.op = .call { callee := .builtin .append, args := #[s, x], argTypes := #[24, 24] }) (z : ByteArray) (l : List ByteArray) (v0 : Value) (b : Nat) (hs : a.eval s = v0) (hx : a.eval x = .slice (some ⟨b, 0, none⟩) 1 1)
    (hr : TxZ w0 w l v0) (hb : w.heap[b]? = some (.cells #[.string z] 9 (0, 0))) (hn : l.length ≤ 1048576)
    (h : ∀ v' w', TxZ w0 w' (l ++ [z]) v' → wpList Tryz.prog ops Q rest (a.put o.dst v') w') : wpList Tryz.prog ops Q (o :: rest) a w := by
  obtain ⟨i0, hi0, hz0, hz1, hz2⟩ := info_parts infoStr
  refine wpList_append_own w hgd s x 24 ho w0.heap.size 9 i0 (.string ⟨#[]⟩) 1 16 Tryz.underlying24 hi0 hz0 hz1 hz2 rfl (by decide) v0 l.length (l.map Value.string) hs hr.row ⟨b, 0, none⟩ 1 1 [.string z] hx rfl (fun j u hj => ?_) (fun u hu => by obtain rfl := List.mem_singleton.1 hu; rfl) (by unfold maxLen; omega) (by omega) hr.below.size (fun v' w' h1 h2 _ => ?_)
  · obtain rfl : j = 0 := by have := (List.getElem?_eq_some_iff.1 hj).1; simpa using this
    obtain rfl : Value.string z = u := by simpa using hj
    rw [addr_add]
    exact cellOf hb rfl
  · have e1 : l.length + 1 = (l ++ [z]).length := by simp
    have e2 : l.map Value.string ++ [Value.string z] = (l ++ [z]).map Value.string := by rw [List.map_append]; rfl
    rw [e1, e2] at h1
    exact h v' w' ⟨h1, hr.below.grown h2 hr.below.size (fun r hr' => (hr.row.lt r hr').1)⟩
/-- What a loop that appends vectors of old memory to a local slice keeps. -/
structure RowO (lo hi : Nat) (w wr : World) (d : Nat) (P : List Vec) (k : Nat) (v : Value) : Prop where
  ex : ∃ vals : List Value, vals.length = k ∧ wr.ownsRow w.heap.size 31 8 v k (vals.flatMap cl8) ∧ ∀ i, i < k → Is8 (vals.getD i undef) ∧ VecAt lo hi w d (P.getD i noV) (vals.getD i undef)
  below : Below w.heap.size w wr
theorem RowO.nil (lo hi : Nat) (w : World) (d : Nat) (P : List Vec) : RowO lo hi w w d P 0 (.slice none 0 0) := ⟨⟨[], rfl, ⟨rfl, .inl ⟨rfl, rfl⟩⟩, fun i h => absurd h (Nat.not_lt_zero _)⟩, Below.refl _ _⟩
theorem RowO.keep {lo hi : Nat} {w wr w1 : World} {d : Nat} {P : List Vec} {k : Nat} {v : Value} (h : RowO lo hi w wr d P k v) (hb : Below wr.heap.size wr w1) : RowO lo hi w w1 d P k v := by
  obtain ⟨vals, h1, h2, h3⟩ := h.ex
  exact ⟨⟨vals, h1, ownsRow_below h2 hb, h3⟩, below_then h.below hb⟩
theorem RowO.row {lo hi : Nat} {w wr : World} {d : Nat} {P : List Vec} {k : Nat} {v : Value} (h : RowO lo hi w wr d P k v) : ∃ xs, wr.ownsRow w.heap.size 31 8 v k xs := by
  obtain ⟨vals, _, h2, _⟩ := h.ex
  exact ⟨_, h2⟩
theorem RowO.next {lo hi : Nat} {w wr w1 w2 : World} {d : Nat} {P : List Vec} {k : Nat} {v v' : Value} {c0 c1 c2 c3 c4 c5 c6 c7 : Value} (h : RowO lo hi w wr d P k v) (hv : VecAt lo hi w d (P.getD k noV) (.agg #[c0, c1, c2, c3, c4, c5, c6, c7])) (hb : Below wr.heap.size wr w1) (hg : w1.grownBy w2 v.ownBlock)
    (hr : ∀ xs, wr.ownsRow w.heap.size 31 8 v k xs → w2.ownsRow w.heap.size 31 8 v' (k + 1) (xs ++ [c0, c1, c2, c3, c4, c5, c6, c7])) : RowO lo hi w w2 d P (k + 1) v' := by
  obtain ⟨vals, h1, h2, h3⟩ := h.ex
  refine ⟨⟨vals ++ [Value.agg #[c0, c1, c2, c3, c4, c5, c6, c7]], by simp [h1], ?_, fun i hi => ?_⟩, (below_then h.below hb).grown hg (Nat.le_trans h.below.size hb.size) (fun r hr' => (h2.lt r hr').1)⟩
  · rw [List.flatMap_append]; exact hr _ h2
  · by_cases e : i = k
    · subst e
      have e1 : (vals ++ [Value.agg #[c0, c1, c2, c3, c4, c5, c6, c7]]).getD i undef = .agg #[c0, c1, c2, c3, c4, c5, c6, c7] := by rw [List.getD_eq_getElem?_getD, List.getElem?_append_right (by omega)]; simp [h1]
      rw [e1]
      exact ⟨⟨_, _, _, _, _, _, _, _, rfl⟩, hv⟩
    · have e1 : (vals ++ [Value.agg #[c0, c1, c2, c3, c4, c5, c6, c7]]).getD i undef = vals.getD i undef := by rw [List.getD_eq_getElem?_getD, List.getD_eq_getElem?_getD, List.getElem?_append_left (by omega)]
      rw [e1]
      exact h3 i (by omega)
theorem RowO.vecs {lo hi : Nat} {w wr : World} {d : Nat} {P : List Vec} {v : Value} (h : RowO lo hi w wr d P P.length v) (hhi : hi ≤ w.heap.size) : ∃ sa c, v = .slice sa P.length c ∧ VecsAt 0 wr.heap.size wr d sa P := by
  obtain ⟨vals, h1, ⟨hl, h2⟩, h3⟩ := h.ex
  rcases h2 with ⟨rfl, h0⟩ | ⟨g, cap, cur, rfl, hB, hg, hc, _, hs, ht⟩
  · have hp : P = [] := List.eq_nil_of_length_eq_zero h0
    subst hp
    exact ⟨none, 0, rfl, fun i p hp => by cases hp⟩
  · refine ⟨_, cap, rfl, fun i p hp => ?_⟩
    obtain ⟨hi1, rfl⟩ := List.getElem?_eq_some_iff.1 hp
    have h8 : ∀ u ∈ vals, Is8 u := fun u hu => by
      obtain ⟨q, hq, e⟩ := mem_getD (z := undef) hu
      rw [← e]; exact (h3 q (by omega)).1
    obtain ⟨c0, c1, c2, c3, c4, c5, c6, c7, e, m0, m1, m2, m3, m4, m5, m6, m7⟩ := flat8_at vals h8 i (by omega)
    have key : ∀ j, j < P.length * 8 → cur[j]? = (vals.flatMap cl8)[j]? := fun j hj => by
      rw [← ht, List.getElem?_take_of_lt hj, Array.getElem?_toList]
    have hv := (h3 i hi1).2
    rw [e, show P.getD i noV = P[i] by simp [List.getD_eq_getElem?_getD, hi1]] at hv
    refine ⟨g, 0, c0, c1, c2, c3, c4, c5, c6, c7, rfl, Nat.zero_le _, (Array.getElem?_eq_some_iff.1 hg).1, (hv.below h.below hhi).wide (Nat.zero_le _) (Nat.le_trans hhi h.below.size) _ _ _, ?_, ?_, ?_, ?_, ?_, ?_, ?_, ?_⟩ <;> rw [Nat.zero_add]
    · exact cellOf hg ((key _ (by omega)).trans m0)
    · exact cellOf hg ((key _ (by omega)).trans m1)
    · exact cellOf hg ((key _ (by omega)).trans m2)
    · exact cellOf hg ((key _ (by omega)).trans m3)
    · exact cellOf hg ((key _ (by omega)).trans m4)
    · exact cellOf hg ((key _ (by omega)).trans m5)
    · exact cellOf hg ((key _ (by omega)).trans m6)
    · exact cellOf hg ((key _ (by omega)).trans m7)
/-- The blocks of a copied slice of vectors. -/
theorem OwnParts.rowX {lo : Nat} {w : World} {d : Nat} {v : Value} {parts : List Vec} {F : List Nat} {xs : List Value} (h : OwnParts w d v parts F) (hn : F.Nodup) (hr : w.ownsRow lo 31 8 v parts.length xs) : ∃ X, RowX lo w d parts v X ∧ X.Nodup ∧ (∀ g ∈ X, g ∈ F) ∧ Off v X := by
  obtain ⟨ap, cp, rfl, _, ⟨rfl, rfl⟩ | ⟨b, C, Fs, rfl, hl, rfl, hb, hC, hp⟩⟩ := h
  · exact ⟨[], ⟨[], [], rfl, rfl, by
      obtain ⟨hx, hr⟩ := hr
      exact ⟨rfl, hr.imp id (fun ⟨b, cap, cur, e, h1, h2, h3, h4, h5, _⟩ => ⟨b, cap, cur, e, h1, h2, h3, h4, h5, by simp⟩)⟩, fun i h => absurd h (Nat.not_lt_zero _), rfl⟩, List.nodup_nil, (fun _ h => by cases h), (fun _ _ h => by cases h)⟩
  · have hch : ∀ i, ∃ val, i < parts.length → OwnVec w d (parts.getD i noV) val (Fs.getD i []) ∧ Eight C i val := fun i => by
      by_cases hi : i < parts.length
      · obtain ⟨val, h1, h2⟩ := hp i hi
        exact ⟨val, fun _ => ⟨h1, h2⟩⟩
      · exact ⟨undef, fun h => absurd h hi⟩
    obtain ⟨f, hf⟩ := Classical.axiomOfChoice hch
    have hvl : ((List.range parts.length).map f).length = parts.length := by simp
    have hva : ∀ i, i < parts.length → ((List.range parts.length).map f).getD i undef = f i := fun i hi => by simp [List.getD_eq_getElem?_getD, hi]
    have h8 : ∀ u ∈ (List.range parts.length).map f, Is8 u := fun u hu => by
      obtain ⟨i, hi, rfl⟩ := List.mem_map.1 hu
      exact (hf i (List.mem_range.1 hi)).1.is8
    have hx : xs = ((List.range parts.length).map f).flatMap cl8 := by
      obtain ⟨hxl, hr⟩ := hr
      rcases hr with ⟨e, _⟩ | ⟨g, cap, cur, e, hB, hg, hc, _, hs, ht⟩
      · cases e
      · simp only [Value.slice.injEq, Option.some.injEq, Addr.mk.injEq] at e
        obtain ⟨⟨rfl, _⟩, _, rfl⟩ := e
        have eC : C = cur := by rw [hb] at hg; simpa using hg
        subst eC
        have hfl := flat8_len _ h8
        rw [hvl] at hfl
        apply List.ext_getElem?
        intro q
        by_cases hq : q < parts.length * 8
        · have hi : q / 8 < parts.length := by omega
          obtain ⟨c0, c1, c2, c3, c4, c5, c6, c7, e, m0, m1, m2, m3, m4, m5, m6, m7⟩ := flat8_at _ h8 (q / 8) (by rw [hvl]; exact hi)
          obtain ⟨d0, d1, d2, d3, d4, d5, d6, d7, e', n0, n1, n2, n3, n4, n5, n6, n7⟩ := (hf _ hi).2
          rw [hva _ hi, e'] at e
          simp only [Value.agg.injEq, Array.mk.injEq, List.cons.injEq, and_true] at e
          obtain ⟨rfl, rfl, rfl, rfl, rfl, rfl, rfl, rfl⟩ := e
          have k0 : xs[q]? = C[q]? := by rw [← ht, List.getElem?_take_of_lt hq, Array.getElem?_toList]
          rw [k0]
          rcases (show q = q / 8 * 8 ∨ q = q / 8 * 8 + 1 ∨ q = q / 8 * 8 + 2 ∨ q = q / 8 * 8 + 3 ∨ q = q / 8 * 8 + 4 ∨ q = q / 8 * 8 + 5 ∨ q = q / 8 * 8 + 6 ∨ q = q / 8 * 8 + 7 by omega) with hq' | hq' | hq' | hq' | hq' | hq' | hq' | hq'
          · rw [hq', n0, m0]
          · rw [hq', n1, m1]
          · rw [hq', n2, m2]
          · rw [hq', n3, m3]
          · rw [hq', n4, m4]
          · rw [hq', n5, m5]
          · rw [hq', n6, m6]
          · rw [hq', n7, m7]
        · rw [List.getElem?_eq_none (by omega), List.getElem?_eq_none (by omega)]
    rw [List.nodup_cons] at hn
    refine ⟨Fs.flatten, ⟨_, Fs, hvl, hl, hx ▸ hr, fun i hi => ?_, rfl⟩, hn.2, fun g hg => List.mem_cons_of_mem _ hg, fun g hg => ?_⟩
    · rw [hva i hi]; exact (hf i hi).1
    · obtain rfl : b = g := Option.some.inj hg
      exact hn.1
set_option maxHeartbeats 2000000 in
theorem implSelIt (l : List It) (idx : List Nat) (a xi : Option Addr) (ca xc lo hi B : Nat) (w : World) (hI : ItemsAt lo hi w a l) (hs : IntsAt B w xi idx.length (ixF idx)) (hB : B ≤ w.heap.size) (hhi : hi ≤ w.heap.size) (hn : idx.length ≤ 1048576) (hl : l.length ≤ 1048576) (hin : l.length ≠ 0 → ∀ i, i < idx.length → idx.getD i 0 < l.length) :
    Calls Tryz.prog 64 #[.slice a l.length ca, .slice xi idx.length xc] w fun e w' => ∃ v, e = .returned v ∧ ItR w w' (pkL noI l idx) v := by
  by_cases h0 : l.length = 0
  · have e := List.eq_nil_of_length_eq_zero h0
    subst e
    go_enter Tryz.func64, Tryz.ntmps64
    go_wp2
    go_ret
    exact ⟨_, rfl, ItR.nil w w (Below.refl _ _)⟩
  · have AI := Lib.hid (fun (k : Nat) (w1 : World) (hk : k < l.length) (hb : Below w.heap.size w w1) => (hI.below hb hhi).at_ hk)
    have SA := Lib.hid hs
    have IN := Lib.hid (hin h0)
    have PS := Lib.hid (fun k (hk : k < idx.length) => pkF_succ noI l idx hk)
    have PF := Lib.hid (pkF_full (z := noI) (idx := idx) h0)
    have PL := Lib.hid (pkF_len noI l idx)
    have ST := Lib.hid (show ItR w w (pkF noI l idx 0) (.slice none 0 0) from by rw [pkF_zero]; exact ItR.nil w w (Below.refl _ _))
    obtain ⟨L, hL⟩ : ∃ L, pkL noI l idx = L := ⟨_, rfl⟩
    rw [hL] at PF ⊢
    obtain ⟨m, hm⟩ : ∃ m, idx.length = m := ⟨_, rfl⟩
    rw [hm] at SA IN PS PF hn ⊢
    obtain ⟨n, hn'⟩ : ∃ n, l.length = n := ⟨_, rfl⟩
    rw [hn'] at AI IN hl h0 ⊢
    have h0b : ((n : Int) == 0) = false := beq_eq_false_iff_ne.2 (by omega)
    clear hL hm hn' hI hs hin
    go_enter Tryz.func64, Tryz.ntmps64
    go_wp2
    go_loopw [5, 13] (fun v i wr => ∃ k : Nat, k ≤ m ∧ i = .int .i64 k ∧ ItR w wr (pkF noI l idx k) v) (fun _ i _ => m - (intOf i).toNat)
    case atStart => exact ⟨0, Nat.zero_le _, rfl, ST.out⟩
    case round =>
      obtain ⟨k, hk, rfl, hir⟩ := hrel
      have IR := Lib.hid hir
      clear hir
      by_cases hlt : k < m
      · obtain ⟨bi, oi, rfl, hbi, ci⟩ := (SA.out.below (IR.out.below.mono hB)) k hlt
        have hq := IN.out k hlt
        have NX := Lib.hid (PS.out k hlt)
        have LN := Lib.hid (show (pkF noI l idx k).length ≤ 1048576 by have := PL.out k; omega)
        unfold ixF at ci
        obtain ⟨q, hq'⟩ : ∃ q, idx.getD k 0 = q := ⟨_, rfl⟩
        rw [hq'] at ci hq NX
        clear hq'
        obtain ⟨ba, off, rfl, hbB, c0, c1, c2'⟩ := AI.out q wr hq IR.out.below
        have c2 : wr.cell? ⟨ba, off + q * 3 + 2, none⟩ = some (.string (l.getD q noI).t) := c2'
        obtain ⟨x, hx⟩ : ∃ x, l.getD q noI = x := ⟨_, rfl⟩
        rw [hx] at c0 c1 c2 NX
        clear hx c2'
        go_wp2_with (at_builtin; go_loud (refine wpList_appIt rfl _ _ rfl x (pkF noI l idx k) _ _ rfl rfl (IR.out.keep (below1 _ _)) (blk_new _ _ rfl) LN.out ?_))
        intro v' w3 hir
        have IN := Lib.hid (NX.out ▸ hir)
        clear hir
        go_wp2
        go_roundw
        case rel => exact ⟨k + 1, by omega, by go_num, IN.out⟩
        case measure => simp [intOf]; omega
      · obtain rfl : k = m := by omega
        have IN := Lib.hid (PF.out ▸ IR.out)
        go_wp2
        go_ret
        exact ⟨_, rfl, IN.out⟩
set_option maxHeartbeats 2000000 in
theorem implSelTx (l : List ByteArray) (idx : List Nat) (a xi : Option Addr) (ca xc lo hi B : Nat) (w : World) (hI : TextsAt lo hi w a l) (hs : IntsAt B w xi idx.length (ixF idx)) (hB : B ≤ w.heap.size) (hhi : hi ≤ w.heap.size) (hn : idx.length ≤ 1048576) (hl : l.length ≤ 1048576) (hin : l.length ≠ 0 → ∀ i, i < idx.length → idx.getD i 0 < l.length) :
    Calls Tryz.prog 68 #[.slice a l.length ca, .slice xi idx.length xc] w fun e w' => ∃ v, e = .returned v ∧ TxZ w w' (pkL ⟨#[]⟩ l idx) v := by
  by_cases h0 : l.length = 0
  · have e := List.eq_nil_of_length_eq_zero h0
    subst e
    go_enter Tryz.func68, Tryz.ntmps68
    go_wp2
    go_ret
    exact ⟨_, rfl, TxZ.nil w w (Below.refl _ _)⟩
  · have AI := Lib.hid (fun (k : Nat) (w1 : World) (hk : k < l.length) (hb : Below w.heap.size w w1) => (show ∃ b off, a = some ⟨b, off, none⟩ ∧ b < hi ∧ w1.cell? ⟨b, off + k, none⟩ = some (.string (l.getD k ⟨#[]⟩)) from (by obtain ⟨b, off, e, _, h1, h2⟩ := (hI.below hb hhi) k (l.getD k ⟨#[]⟩) (by simp [List.getD_eq_getElem?_getD, hk]); exact ⟨b, off, e, h1, h2⟩)))
    have SA := Lib.hid hs
    have IN := Lib.hid (hin h0)
    have PS := Lib.hid (fun k (hk : k < idx.length) => pkF_succ ⟨#[]⟩ l idx hk)
    have PF := Lib.hid (pkF_full (z := ⟨#[]⟩) (idx := idx) h0)
    have PL := Lib.hid (pkF_len ⟨#[]⟩ l idx)
    have ST := Lib.hid (show TxZ w w (pkF ⟨#[]⟩ l idx 0) (.slice none 0 0) from by rw [pkF_zero]; exact TxZ.nil w w (Below.refl _ _))
    obtain ⟨L, hL⟩ : ∃ L, pkL ⟨#[]⟩ l idx = L := ⟨_, rfl⟩
    rw [hL] at PF ⊢
    obtain ⟨m, hm⟩ : ∃ m, idx.length = m := ⟨_, rfl⟩
    rw [hm] at SA IN PS PF hn ⊢
    obtain ⟨n, hn'⟩ : ∃ n, l.length = n := ⟨_, rfl⟩
    rw [hn'] at AI IN hl h0 ⊢
    have h0b : ((n : Int) == 0) = false := beq_eq_false_iff_ne.2 (by omega)
    clear hL hm hn' hI hs hin
    go_enter Tryz.func68, Tryz.ntmps68
    go_wp2
    go_loopw [5, 13] (fun v i wr => ∃ k : Nat, k ≤ m ∧ i = .int .i64 k ∧ TxZ w wr (pkF ⟨#[]⟩ l idx k) v) (fun _ i _ => m - (intOf i).toNat)
    case atStart => exact ⟨0, Nat.zero_le _, rfl, ST.out⟩
    case round =>
      obtain ⟨k, hk, rfl, hir⟩ := hrel
      have IR := Lib.hid hir
      clear hir
      by_cases hlt : k < m
      · obtain ⟨bi, oi, rfl, hbi, ci⟩ := (SA.out.below (IR.out.below.mono hB)) k hlt
        have hq := IN.out k hlt
        have NX := Lib.hid (PS.out k hlt)
        have LN := Lib.hid (show (pkF ⟨#[]⟩ l idx k).length ≤ 1048576 by have := PL.out k; omega)
        unfold ixF at ci
        obtain ⟨q, hq'⟩ : ∃ q, idx.getD k 0 = q := ⟨_, rfl⟩
        rw [hq'] at ci hq NX
        clear hq'
        obtain ⟨ba, off, rfl, hbB, c0⟩ := AI.out q wr hq IR.out.below
        obtain ⟨x, hx⟩ : ∃ x, l.getD q ⟨#[]⟩ = x := ⟨_, rfl⟩
        rw [hx] at c0 NX
        clear hx
        go_wp2_with (at_builtin; go_loud (refine wpList_appTx rfl _ _ rfl x (pkF ⟨#[]⟩ l idx k) _ _ rfl rfl (IR.out.keep (below1 _ _)) (blk_new _ _ rfl) LN.out ?_))
        intro v' w3 hir
        have IN := Lib.hid (NX.out ▸ hir)
        clear hir
        go_wp2
        go_roundw
        case rel => exact ⟨k + 1, by omega, by go_num, IN.out⟩
        case measure => simp [intOf]; omega
      · obtain rfl : k = m := by omega
        have IN := Lib.hid (PF.out ▸ IR.out)
        go_wp2
        go_ret
        exact ⟨_, rfl, IN.out⟩
set_option maxHeartbeats 2000000 in
theorem implSelVec (d : Nat) (l : List Vec) (idx : List Nat) (a xi : Option Addr) (ca xc lo hi B : Nat) (w : World) (hI : VecsAt lo hi w d a l) (hs : IntsAt B w xi idx.length (ixF idx)) (hB : B ≤ w.heap.size) (hhi : hi ≤ w.heap.size) (hn : idx.length ≤ 1048576) (hl : l.length ≤ 1048576) (hin : l.length ≠ 0 → ∀ i, i < idx.length → idx.getD i 0 < l.length) :
    Calls Tryz.prog 66 #[.slice a l.length ca, .slice xi idx.length xc] w fun e w' => ∃ sa c, e = .returned (.slice sa (pkL noV l idx).length c) ∧ VecsAt 0 w'.heap.size w' d sa (pkL noV l idx) ∧ Below w.heap.size w w' := by
  by_cases h0 : l.length = 0
  · have e := List.eq_nil_of_length_eq_zero h0
    subst e
    go_enter Tryz.func66, Tryz.ntmps66
    go_wp2
    go_ret
    exact ⟨none, 0, rfl, (fun i p h => by cases h), Below.refl _ _⟩
  · have AI := Lib.hid (fun (k : Nat) (w1 : World) (hk : k < l.length) (hb : Below w.heap.size w w1) => (hI.below hb hhi).at_ hk)
    have A0 := Lib.hid (fun (k : Nat) (hk : k < l.length) => hI.at_ hk)
    have SA := Lib.hid hs
    have IN := Lib.hid (hin h0)
    have PL : (pkL noV l idx).length = idx.length := by rw [pkL_some h0]; simp
    have PG := Lib.hid (fun k (hk : k < idx.length) => (by rw [pkL_some h0]; simp [List.getD_eq_getElem?_getD, hk] : (pkL noV l idx).getD k noV = l.getD (idx.getD k 0) noV))
    have FIN := Lib.hid (fun (wr : World) (v : Value) (h : RowO lo hi w wr d (pkL noV l idx) (pkL noV l idx).length v) => h.vecs hhi)
    obtain ⟨L, hL⟩ : ∃ L, pkL noV l idx = L := ⟨_, rfl⟩
    rw [hL] at PG PL FIN ⊢
    rw [PL] at FIN ⊢
    obtain ⟨m, hm⟩ : ∃ m, idx.length = m := ⟨_, rfl⟩
    rw [hm] at SA IN PG FIN hn ⊢
    obtain ⟨n, hn'⟩ : ∃ n, l.length = n := ⟨_, rfl⟩
    rw [hn'] at AI A0 IN hl h0 ⊢
    have h0b : ((n : Int) == 0) = false := beq_eq_false_iff_ne.2 (by omega)
    have ST := Lib.hid (RowO.nil lo hi w d L)
    obtain ⟨i0, hi0, hz0, hz1, hz2⟩ := info_parts infoVec8
    clear hL hm hn' hI hs hin PL
    go_enter Tryz.func66, Tryz.ntmps66
    go_wp2
    go_loopw [5, 13] (fun v i wr => ∃ k : Nat, k ≤ m ∧ i = .int .i64 k ∧ RowO lo hi w wr d L k v) (fun _ i _ => m - (intOf i).toNat)
    case atStart => exact ⟨0, Nat.zero_le _, rfl, ST.out⟩
    case round =>
      obtain ⟨k, hk, rfl, hir⟩ := hrel
      have IR := Lib.hid hir
      clear hir
      by_cases hlt : k < m
      · obtain ⟨bi, oi, rfl, hbi, ci⟩ := (SA.out.below (IR.out.below.mono hB)) k hlt
        have hq := IN.out k hlt
        have NX := PG.out k hlt
        unfold ixF at ci
        obtain ⟨q, hq'⟩ : ∃ q, idx.getD k 0 = q := ⟨_, rfl⟩
        rw [hq'] at ci hq NX
        clear hq'
        obtain ⟨b, off, u0, u1, u2, u3, u4, u5, u6, u7, rfl, hbB, _, c0, c1, c2, c3, c4, c5, c6, c7⟩ := AI.out q wr hq IR.out.below
        obtain ⟨b', off', t0, t1, t2, t3, t4, t5, t6, t7, e', hbB', hv, d0, d1, d2, d3, d4, d5, d6, d7⟩ := A0.out q hq
        simp only [Option.some.injEq, Addr.mk.injEq, and_true] at e'
        obtain ⟨rfl, rfl⟩ := e'
        have hbl : b < w.heap.size := Nat.lt_of_lt_of_le hbB hhi
        have kc : ∀ j, wr.cell? ⟨b, j, none⟩ = w.cell? ⟨b, j, none⟩ := fun j => IR.out.below.cell (p := ⟨b, j, none⟩) hbl
        obtain rfl : t0 = u0 := by rw [kc, d0] at c0; exact Option.some.inj c0
        obtain rfl : t1 = u1 := by rw [kc, d1] at c1; exact Option.some.inj c1
        obtain rfl : t2 = u2 := by rw [kc, d2] at c2; exact Option.some.inj c2
        obtain rfl : t3 = u3 := by rw [kc, d3] at c3; exact Option.some.inj c3
        obtain rfl : t4 = u4 := by rw [kc, d4] at c4; exact Option.some.inj c4
        obtain rfl : t5 = u5 := by rw [kc, d5] at c5; exact Option.some.inj c5
        obtain rfl : t6 = u6 := by rw [kc, d6] at c6; exact Option.some.inj c6
        obtain rfl : t7 = u7 := by rw [kc, d7] at c7; exact Option.some.inj c7
        rw [← NX] at hv
        obtain ⟨yk, ya1, yn1, ym1, ya2, yn2, ym2, ya3, yn3, ym3, ya4, yn4, ym4, ya5, yn5, ym5, yc, ye, e8⟩ := hv.agg
        simp only [Value.agg.injEq, Array.mk.injEq, List.cons.injEq, and_true] at e8
        obtain ⟨rfl, rfl, rfl, rfl, rfl, rfl, rfl, rfl⟩ := e8
        have HV := Lib.hid hv
        obtain ⟨xs, hxs⟩ := IR.out.row
        have XS := Lib.hid hxs
        have OR := Lib.hid (ownsRow_below hxs (below1 wr (.cells #[.int .i64 yk, .slice ya1 yn1 ym1, .slice ya2 yn2 ym2, .slice ya3 yn3 ym3, .slice ya4 yn4 ym4, .slice ya5 yn5 ym5, .int .i64 yc, .int .i64 ye] 31)))
        have S1 := Lib.hid IR.out.below.size
        clear hv NX d0 d1 d2 d3 d4 d5 d6 d7 kc hxs
        go_wp2_with (at_builtin; refine wpList_append_own_at _ rfl _ _ 29 rfl w.heap.size 31 i0 _ 8 144 Tryz.underlying29 hi0 hz0 hz1 hz2 rfl (by decide) _ k xs rfl OR.out ⟨wr.heap.size, 0, none⟩ 1 1 [.int .i64 yk, .slice ya1 yn1 ym1, .slice ya2 yn2 ym2, .slice ya3 yn3 ym3, .slice ya4 yn4 ym4, .slice ya5 yn5 ym5, .int .i64 yc, .int .i64 ye] rfl rfl ?c1 ?c2 ?c3 ?c4 ?c5 ?_)
        case c1 =>
          intro j u hj
          have hlt : j < 8 := by have := (List.getElem?_eq_some_iff.1 hj).1; simpa using this
          rw [addr_add, Nat.zero_add]
          refine cellOf (blk_new wr _ rfl) ?_
          rw [← hj]
          rcases (show j = 0 ∨ j = 1 ∨ j = 2 ∨ j = 3 ∨ j = 4 ∨ j = 5 ∨ j = 6 ∨ j = 7 by omega) with rfl | rfl | rfl | rfl | rfl | rfl | rfl | rfl <;> rfl
        case c2 => intro u hu; simp only [List.mem_cons, List.not_mem_nil, or_false] at hu; rcases hu with rfl | rfl | rfl | rfl | rfl | rfl | rfl | rfl <;> rfl
        case c3 => unfold maxLen; omega
        case c4 => omega
        case c5 => have := S1.out; simp; omega
        intro v' w3 hown' hgrow _ hwh
        have NX := Lib.hid (IR.out.next HV.out (below1 wr _) hgrow (fun ys hy => ownsRow_same XS.out hy ▸ hown'))
        clear hown' hgrow hwh
        go_wp2
        go_roundw
        case rel => exact ⟨k + 1, by omega, by go_num, NX.out⟩
        case measure => simp [intOf]; omega
      · obtain rfl : k = m := by omega
        obtain ⟨sa, c, rfl, hvs⟩ := FIN.out _ _ IR.out
        have VS := Lib.hid hvs
        have BB := Lib.hid IR.out.below
        clear hvs
        go_wp2
        go_ret
        exact ⟨sa, c, rfl, VS.out, BB.out⟩
/-- Names, or none where all are empty. -/
noncomputable def clnN (l : List ByteArray) : List ByteArray := match bB (∃ i, i < l.length ∧ (l.getD i ⟨#[]⟩).size ≠ 0) with | true => l | false => []
theorem clnN_yes {l : List ByteArray} (h : ∃ i, i < l.length ∧ (l.getD i ⟨#[]⟩).size ≠ 0) : clnN l = l := by unfold clnN; rw [bB_yes h]
theorem clnN_no {l : List ByteArray} (h : ¬ ∃ i, i < l.length ∧ (l.getD i ⟨#[]⟩).size ≠ 0) : clnN l = [] := by unfold clnN; rw [bB_no h]
theorem implKnownN (l : List ByteArray) (a : Option Addr) (c lo hi : Nat) (w : World) (hT : TextsAt lo hi w a l) (hn : l.length ≤ 1048576) :
    Calls Tryz.prog 67 #[.slice a l.length c] w fun e w' => ((clnN l = l ∧ e = .returned (.slice a l.length c)) ∨ (clnN l = [] ∧ e = .returned (.slice none 0 0))) ∧ w = w' := by
  have C := Lib.hid (fun W => (show w = W → _ from fun e => by subst e; exact implAreEmpty a l.length c (fun i => l.getD i ⟨#[]⟩) hi w hT.strs (by omega)))
  by_cases h : ∃ i, i < l.length ∧ (l.getD i ⟨#[]⟩).size ≠ 0
  · have X := Lib.hid (clnN_yes h)
    have E : bB (¬ SomeIn (fun i => l.getD i ⟨#[]⟩) l.length) = false := bB_no (fun k => k h)
    rw [E] at C
    clear h E hT
    go_enter Tryz.func67, Tryz.ntmps67
    go_wp2_with fail
    with_reducible refine (C.out _ rfl).mono ?_
    rintro e w' ⟨rfl, rfl⟩
    go_wp2
    go_ret
    exact ⟨.inl ⟨X.out, rfl⟩, rfl⟩
  · have X := Lib.hid (clnN_no h)
    have E : bB (¬ SomeIn (fun i => l.getD i ⟨#[]⟩) l.length) = true := bB_yes h
    rw [E] at C
    clear h E hT
    go_enter Tryz.func67, Tryz.ntmps67
    go_wp2_with fail
    with_reducible refine (C.out _ rfl).mono ?_
    rintro e w' ⟨rfl, rfl⟩
    go_wp2
    go_ret
    exact ⟨.inr ⟨X.out, rfl⟩, rfl⟩
end Go.Proofs.YtpekdmocgjjhnaaGreat

/- ResolvePositions as data. -/
namespace Go.Proofs.YtpekdmocgjjhnaaGreat
open Go.RowKit
set_option maxRecDepth 100000
set_option linter.unusedVariables false

/-- "invalid subscript", "subscript out of bounds", "invalid names", "not a list" -/
def invB : ByteArray := ⟨#[105, 110, 118, 97, 108, 105, 100, 32, 115, 117, 98, 115, 99, 114, 105, 112, 116]⟩
def oobB : ByteArray := ⟨#[115, 117, 98, 115, 99, 114, 105, 112, 116, 32, 111, 117, 116, 32, 111, 102, 32, 98, 111, 117, 110, 100, 115]⟩
def innB : ByteArray := ⟨#[105, 110, 118, 97, 108, 105, 100, 32, 110, 97, 109, 101, 115]⟩
def nltB : ByteArray := ⟨#[110, 111, 116, 32, 97, 32, 108, 105, 115, 116]⟩

/-! Logical subscripts. -/
def lgX (l : List It) (k : Nat) : List Int := if truthI (l.getD (k % l.length) noI) = 2 then [0] else if truthI (l.getD (k % l.length) noI) = 1 then [(k : Int) + 1] else []
def lgP (l : List It) : Nat → List Int
  | 0 => []
  | k + 1 => lgP l k ++ lgX l k
theorem lgP_miss {l : List It} {k : Nat} (h : truthI (l.getD (k % l.length) noI) = 2) : lgP l (k + 1) = lgP l k ++ [0] := by show lgP l k ++ lgX l k = _; unfold lgX; rw [if_pos h]
theorem lgP_yes {l : List It} {k : Nat} (h : truthI (l.getD (k % l.length) noI) = 1) : lgP l (k + 1) = lgP l k ++ [(k : Int) + 1] := by show lgP l k ++ lgX l k = _; unfold lgX; rw [if_neg (by rw [h]; decide), if_pos h]
theorem lgP_no {l : List It} {k : Nat} (h : truthI (l.getD (k % l.length) noI) = 0) : lgP l (k + 1) = lgP l k := by show lgP l k ++ lgX l k = _; unfold lgX; rw [if_neg (by rw [h]; decide), if_neg (by rw [h]; decide), List.append_nil]
theorem lgP_len (l : List It) : ∀ k, (lgP l k).length ≤ k
  | 0 => Nat.le_refl _
  | k + 1 => by
    show (lgP l k ++ lgX l k).length ≤ k + 1
    have := lgP_len l k
    rw [List.length_append]
    have h1 : (lgX l k).length ≤ 1 := by unfold lgX; split <;> (try split) <;> simp
    omega
def lgM (l : List It) (n : Nat) : Nat := if l.length = 0 then 0 else max n l.length

/-! Number subscripts. -/
def OkN (x : It) : Prop := x.d ≤ 1 ∧ -40 ≤ x.n ∧ x.n ≤ 40
def nmE : List It → ByteArray
  | [] => ⟨#[]⟩
  | x :: l => if 1 < x.d then invB else if x.n < -40 ∨ 40 < x.n then oobB else nmE l
theorem nmE_cons {x : It} {l : List It} (h : OkN x) : nmE (x :: l) = nmE l := by
  obtain ⟨h1, h2, h3⟩ := h
  show (if 1 < x.d then invB else if x.n < -40 ∨ 40 < x.n then oobB else nmE l) = _
  rw [if_neg (by omega), if_neg (by omega)]
theorem nmE_ok : ∀ (l : List It), (∀ i, i < l.length → OkN (l.getD i noI)) → nmE l = ⟨#[]⟩
  | [], _ => rfl
  | x :: l, h => by rw [nmE_cons (show OkN x from h 0 (Nat.succ_pos _))]; exact nmE_ok l (fun i hi => h (i + 1) (Nat.succ_lt_succ hi))
theorem nmE_frac : ∀ (l : List It) (k : Nat), k < l.length → (∀ i, i < k → OkN (l.getD i noI)) → 1 < (l.getD k noI).d → nmE l = invB
  | [], _, h, _, _ => absurd h (Nat.not_lt_zero _)
  | x :: l, 0, _, _, h => by
    have h' : 1 < x.d := h
    show (if 1 < x.d then invB else if x.n < -40 ∨ 40 < x.n then oobB else nmE l) = _
    rw [if_pos h']
  | x :: l, k + 1, hk, ok, h => by rw [nmE_cons (show OkN x from ok 0 (Nat.succ_pos _))]; exact nmE_frac l k (Nat.lt_of_succ_lt_succ hk) (fun i hi => ok (i + 1) (Nat.succ_lt_succ hi)) h
theorem nmE_out : ∀ (l : List It) (k : Nat), k < l.length → (∀ i, i < k → OkN (l.getD i noI)) → ¬ 1 < (l.getD k noI).d → (l.getD k noI).n < -40 ∨ 40 < (l.getD k noI).n → nmE l = oobB
  | [], _, h, _, _, _ => absurd h (Nat.not_lt_zero _)
  | x :: l, 0, _, _, h, g => by
    have h' : ¬ 1 < x.d := h
    have g' : x.n < -40 ∨ 40 < x.n := g
    show (if 1 < x.d then invB else if x.n < -40 ∨ 40 < x.n then oobB else nmE l) = _
    rw [if_neg h', if_pos g']
  | x :: l, k + 1, hk, ok, h, g => by rw [nmE_cons (show OkN x from ok 0 (Nat.succ_pos _))]; exact nmE_out l k (Nat.lt_of_succ_lt_succ hk) (fun i hi => ok (i + 1) (Nat.succ_lt_succ hi)) h g
theorem nmE_all : ∀ (l : List It), nmE l = ⟨#[]⟩ → ∀ i, i < l.length → OkN (l.getD i noI)
  | [], _, _, h => absurd h (Nat.not_lt_zero _)
  | x :: l, e, i, hi => by
    have e' : (if 1 < x.d then invB else if x.n < -40 ∨ 40 < x.n then oobB else nmE l) = ⟨#[]⟩ := e
    by_cases h1 : 1 < x.d
    · rw [if_pos h1] at e'; exact absurd e' (by decide)
    · rw [if_neg h1] at e'
      by_cases h2 : x.n < -40 ∨ 40 < x.n
      · rw [if_pos h2] at e'; exact absurd e' (by decide)
      · rw [if_neg h2] at e'
        match i, hi with
        | 0, _ => exact ⟨by show x.d ≤ 1; omega, by show -40 ≤ x.n; omega, by show x.n ≤ 40; omega⟩
        | i + 1, hi => exact nmE_all l e' i (Nat.lt_of_succ_lt_succ hi)
def nmX (x : It) : List Int := if x.n ≠ 0 ∨ x.d = 0 then [x.n] else []
/-- The numbers but for the zeros; 0 for a missing one. -/
def nmC (l : List It) : Nat → List Int
  | 0 => []
  | k + 1 => nmC l k ++ nmX (l.getD k noI)
theorem nmC_yes {l : List It} {k : Nat} (h : (l.getD k noI).n ≠ 0 ∨ (l.getD k noI).d = 0) : nmC l (k + 1) = nmC l k ++ [(l.getD k noI).n] := by show nmC l k ++ nmX (l.getD k noI) = _; unfold nmX; rw [if_pos h]
theorem nmC_no {l : List It} {k : Nat} (h : ¬ ((l.getD k noI).n ≠ 0 ∨ (l.getD k noI).d = 0)) : nmC l (k + 1) = nmC l k := by show nmC l k ++ nmX (l.getD k noI) = _; unfold nmX; rw [if_neg h, List.append_nil]
theorem nmC_len (l : List It) : ∀ k, (nmC l k).length ≤ k
  | 0 => Nat.le_refl _
  | k + 1 => by
    show (nmC l k ++ nmX (l.getD k noI)).length ≤ k + 1
    have := nmC_len l k
    rw [List.length_append]
    have h1 : (nmX (l.getD k noI)).length ≤ 1 := by unfold nmX; split <;> simp
    omega
/-- What the first k numbers make: a minus sign, something else. -/
def NegK (l : List It) (k : Nat) : Prop := ∃ i, i < k ∧ (l.getD i noI).n < 0
def PosK (l : List It) (k : Nat) : Prop := ∃ i, i < k ∧ (0 < (l.getD i noI).n ∨ (l.getD i noI).d = 0)
theorem nmC_mem {l : List It} {z : Int} : ∀ {k : Nat}, z ∈ nmC l k ↔ ∃ i, i < k ∧ (l.getD i noI).n = z ∧ ((l.getD i noI).n ≠ 0 ∨ (l.getD i noI).d = 0)
  | 0 => ⟨(fun h => by cases h), fun ⟨i, h, _⟩ => absurd h (Nat.not_lt_zero _)⟩
  | k + 1 => by
    have ih := nmC_mem (l := l) (z := z) (k := k)
    by_cases h : (l.getD k noI).n ≠ 0 ∨ (l.getD k noI).d = 0
    · rw [nmC_yes h, List.mem_append, ih, List.mem_singleton]
      constructor
      · rintro (⟨i, h1, h2⟩ | rfl)
        · exact ⟨i, by omega, h2⟩
        · exact ⟨k, by omega, rfl, h⟩
      · rintro ⟨i, h1, h2, h3⟩
        by_cases e : i = k
        · subst e; exact .inr h2.symm
        · exact .inl ⟨i, by omega, h2, h3⟩
    · rw [nmC_no h, ih]
      constructor
      · rintro ⟨i, h1, h2⟩; exact ⟨i, by omega, h2⟩
      · rintro ⟨i, h1, h2, h3⟩
        by_cases e : i = k
        · subst e; exact absurd h3 h
        · exact ⟨i, by omega, h2, h3⟩
def NegIn (c : List Int) : Prop := ∃ i, i < c.length ∧ c.getD i 0 < 0
def AllNeg (c : List Int) : Prop := ∀ i, i < c.length → c.getD i 0 < 0
theorem getDZ_mem {c : List Int} {i : Nat} (h : i < c.length) : c.getD i 0 ∈ c := by rw [List.getD_eq_getElem?_getD, List.getElem?_eq_getElem h]; exact List.getElem_mem h
theorem memZ_getD {c : List Int} {z : Int} (h : z ∈ c) : ∃ i, i < c.length ∧ c.getD i 0 = z := by
  obtain ⟨i, hi, e⟩ := List.getElem_of_mem h
  exact ⟨i, hi, by rw [List.getD_eq_getElem?_getD, List.getElem?_eq_getElem hi]; exact e⟩
theorem neg_iff {l : List It} {k : Nat} : NegIn (nmC l k) ↔ NegK l k := by
  constructor
  · rintro ⟨i, hi, h⟩
    obtain ⟨j, h1, h2, _⟩ := nmC_mem.1 (getDZ_mem hi)
    exact ⟨j, h1, by omega⟩
  · rintro ⟨j, h1, h2⟩
    have hne : (l.getD j noI).n ≠ 0 := by omega
    obtain ⟨i, hi, e⟩ := memZ_getD (nmC_mem.2 ⟨j, h1, rfl, .inl hne⟩)
    exact ⟨i, hi, by omega⟩
theorem all_iff {l : List It} {k : Nat} (h0 : ∀ i, i < k → (l.getD i noI).d = 0 → (l.getD i noI).n = 0) : AllNeg (nmC l k) ↔ ¬ PosK l k := by
  constructor
  · rintro h ⟨j, h1, h2⟩
    have hc : (l.getD j noI).n ≠ 0 ∨ (l.getD j noI).d = 0 := by rcases h2 with h2 | h2 <;> omega
    obtain ⟨i, hi, e⟩ := memZ_getD (nmC_mem.2 ⟨j, h1, rfl, hc⟩)
    have h3 := h i hi
    rcases h2 with h2 | h2
    · omega
    · have := h0 j h1 h2; omega
  · intro h i hi
    obtain ⟨j, h1, h2, h3⟩ := nmC_mem.1 (getDZ_mem hi)
    have h4 : ¬ (0 < (l.getD j noI).n ∨ (l.getD j noI).d = 0) := fun h5 => h ⟨j, h1, h5⟩
    omega
/-- Is the number among them? -/
def HasZ (c : List Int) (z : Int) : Prop := ∃ i, i < c.length ∧ c.getD i 0 = z
noncomputable def exP (c : List Int) (i : Nat) : Bool := !bB (HasZ c (-((i : Int) + 1)))
/-- The positions up to n but for the excluded ones. -/
noncomputable def exZ (c : List Int) (n : Nat) : List Int := (whN (exP c) n).map (fun (i : Nat) => (i : Int) + 1)
theorem exZ_yes {c : List Int} {k : Nat} (h : exP c k = true) : exZ c (k + 1) = exZ c k ++ [(k : Int) + 1] := by unfold exZ; rw [whN_yes h, List.map_append]; rfl
theorem exZ_no {c : List Int} {k : Nat} (h : exP c k = false) : exZ c (k + 1) = exZ c k := by unfold exZ; rw [whN_no h]
theorem exZ_len (c : List Int) (k : Nat) : (exZ c k).length ≤ k := by unfold exZ; rw [List.length_map]; exact whN_len _ _
noncomputable def nmZ (c : List Int) (n : Nat) : List Int := bif bB (NegIn c) then (bif bB (AllNeg c) then exZ c n else []) else c
noncomputable def nmR (c : List Int) : ByteArray := bif bB (NegIn c) then (bif bB (AllNeg c) then ⟨#[]⟩ else invB) else ⟨#[]⟩
theorem nm_plain {c : List Int} (n : Nat) (h : ¬ NegIn c) : nmZ c n = c ∧ nmR c = ⟨#[]⟩ := by unfold nmZ nmR; rw [bB_no h]; exact ⟨rfl, rfl⟩
theorem nm_mixed {c : List Int} (n : Nat) (h : NegIn c) (h2 : ¬ AllNeg c) : nmZ c n = [] ∧ nmR c = invB := by unfold nmZ nmR; rw [bB_yes h, bB_no h2]; exact ⟨rfl, rfl⟩
theorem nm_minus {c : List Int} (n : Nat) (h : NegIn c) (h2 : AllNeg c) : nmZ c n = exZ c n ∧ nmR c = ⟨#[]⟩ := by unfold nmZ nmR; rw [bB_yes h, bB_yes h2]; exact ⟨rfl, rfl⟩
noncomputable def nuZ (l : List It) (n : Nat) : List Int := bif bB (nmE l = ⟨#[]⟩) then nmZ (nmC l l.length) n else []
noncomputable def nuS (l : List It) : ByteArray := bif bB (nmE l = ⟨#[]⟩) then nmR (nmC l l.length) else nmE l
theorem nu_bad {l : List It} (n : Nat) (h : ¬ nmE l = ⟨#[]⟩) : nuZ l n = [] ∧ nuS l = nmE l := by unfold nuZ nuS; rw [bB_no h]; exact ⟨rfl, rfl⟩
theorem nu_ok {l : List It} (n : Nat) (h : nmE l = ⟨#[]⟩) : nuZ l n = nmZ (nmC l l.length) n ∧ nuS l = nmR (nmC l l.length) := by unfold nuZ nuS; rw [bB_yes h]; exact ⟨rfl, rfl⟩

/-! Texts as subscripts. -/
def findL (K : List ByteArray) (s : ByteArray) : Int := findF s (fun i => K.getD i ⟨#[]⟩) K.length 0
theorem findL_le (K : List ByteArray) (s : ByteArray) : -1 ≤ findL K s := (findF_le s _ _ 0).1
theorem findL_lt (K : List ByteArray) (s : ByteArray) : findL K s < K.length := by
  unfold findL
  rcases findF_first s (fun i => K.getD i ⟨#[]⟩) K.length 0 with ⟨e, _⟩ | ⟨j, e, _, h2, _⟩ <;> rw [e] <;> omega
theorem findL_in {K : List ByteArray} {s : ByteArray} : 0 ≤ findL K s ↔ ∃ i, i < K.length ∧ K.getD i ⟨#[]⟩ = s := by
  unfold findL
  rcases findF_first s (fun i => K.getD i ⟨#[]⟩) K.length 0 with ⟨e, hn⟩ | ⟨j, e, _, h2, h3, _⟩
  · rw [e]
    exact ⟨fun h => by omega, fun ⟨i, hi, he⟩ => absurd (by rw [he]) (hn i (Nat.zero_le _) (by omega))⟩
  · rw [e]
    exact ⟨fun _ => ⟨j, by omega, toList_inj h3⟩, fun _ => by omega⟩
/-- The place of a text that was just put behind the others. -/
theorem findL_new {K : List ByteArray} {s : ByteArray} (h : ¬ 0 ≤ findL K s) : findL (K ++ [s]) s = K.length := by
  have hn : ∀ i, i < K.length → K.getD i ⟨#[]⟩ ≠ s := fun i hi e => h (findL_in.2 ⟨i, hi, e⟩)
  have g : ∀ i, i < K.length → (K ++ [s]).getD i ⟨#[]⟩ = K.getD i ⟨#[]⟩ := fun i hi => by simp [List.getD_eq_getElem?_getD, List.getElem?_append_left hi]
  have ge : (K ++ [s]).getD K.length ⟨#[]⟩ = s := by simp [List.getD_eq_getElem?_getD]
  unfold findL
  rcases findF_first s (fun i => (K ++ [s]).getD i ⟨#[]⟩) (K ++ [s]).length 0 with ⟨e, hn'⟩ | ⟨j, e, _, h2, h3, h4⟩
  · exact absurd (by rw [ge]) (hn' K.length (Nat.zero_le _) (by simp))
  · rw [e]
    simp only [List.length_append, List.length_cons, List.length_nil] at h2
    have h3' := toList_inj h3
    have hj : ¬ j < K.length := fun hj => by rw [g j hj] at h3'; exact hn j hj h3'
    have : j = K.length := by omega
    rw [this]
noncomputable def txW (K : List ByteArray) (x : It) : List ByteArray := bif bB (x = noI ∨ 0 ≤ findL K x.t) then K else K ++ [x.t]
noncomputable def txK (K : List ByteArray) (l : List It) : Nat → List ByteArray
  | 0 => K
  | k + 1 => txW (txK K l k) (l.getD k noI)
noncomputable def txZ (K : List ByteArray) (x : It) : Int := bif bB (x = noI) then 0 else findL K x.t + 1
noncomputable def txP (K : List ByteArray) (l : List It) : Nat → List Int
  | 0 => []
  | k + 1 => txP K l k ++ [txZ (txK K l (k + 1)) (l.getD k noI)]
theorem txK_miss {K : List ByteArray} {l : List It} {k : Nat} (h : l.getD k noI = noI) : txK K l (k + 1) = txK K l k := by show txW (txK K l k) (l.getD k noI) = _; unfold txW; rw [bB_yes (.inl h)]; rfl
theorem txK_old {K : List ByteArray} {l : List It} {k : Nat} (h : 0 ≤ findL (txK K l k) (l.getD k noI).t) : txK K l (k + 1) = txK K l k := by show txW (txK K l k) (l.getD k noI) = _; unfold txW; rw [bB_yes (.inr h)]; rfl
theorem txK_new {K : List ByteArray} {l : List It} {k : Nat} (h0 : ¬ l.getD k noI = noI) (h : ¬ 0 ≤ findL (txK K l k) (l.getD k noI).t) : txK K l (k + 1) = txK K l k ++ [(l.getD k noI).t] := by show txW (txK K l k) (l.getD k noI) = _; unfold txW; rw [bB_no (fun e => e.elim h0 h)]; rfl
theorem txP_miss {K : List ByteArray} {l : List It} {k : Nat} (h : l.getD k noI = noI) : txP K l (k + 1) = txP K l k ++ [0] := by show txP K l k ++ [txZ _ (l.getD k noI)] = _; unfold txZ; rw [bB_yes h]; rfl
theorem txP_old {K : List ByteArray} {l : List It} {k : Nat} (h0 : ¬ l.getD k noI = noI) (h : 0 ≤ findL (txK K l k) (l.getD k noI).t) : txP K l (k + 1) = txP K l k ++ [findL (txK K l k) (l.getD k noI).t + 1] := by show txP K l k ++ [txZ _ (l.getD k noI)] = _; unfold txZ; rw [bB_no h0, txK_old h]; rfl
theorem txP_new {K : List ByteArray} {l : List It} {k : Nat} (h0 : ¬ l.getD k noI = noI) (h : ¬ 0 ≤ findL (txK K l k) (l.getD k noI).t) : txP K l (k + 1) = txP K l k ++ [((txK K l k).length : Int) + 1] := by show txP K l k ++ [txZ _ (l.getD k noI)] = _; unfold txZ; rw [bB_no h0, txK_new h0 h, findL_new h]; rfl
theorem txK_len (K : List ByteArray) (l : List It) : ∀ k, (txK K l k).length ≤ K.length + k
  | 0 => Nat.le_refl _
  | k + 1 => by
    have := txK_len K l k
    show (txW (txK K l k) (l.getD k noI)).length ≤ _
    unfold txW
    cases bB (l.getD k noI = noI ∨ 0 ≤ findL (txK K l k) (l.getD k noI).t) with
    | true => show (txK K l k).length ≤ _; omega
    | false => show (txK K l k ++ [(l.getD k noI).t]).length ≤ _; rw [List.length_append, List.length_singleton]; omega
theorem txP_len (K : List ByteArray) (l : List It) : ∀ k, (txP K l k).length = k
  | 0 => rfl
  | k + 1 => by show (txP K l k ++ [_]).length = k + 1; rw [List.length_append, txP_len K l k]; rfl
def OkT (x : It) : Prop := x = noI ∨ x.t.size ≠ 0
def AllT (l : List It) : Prop := ∀ i, i < l.length → OkT (l.getD i noI)
/-- The names, or empty ones. -/
def padL (names : List ByteArray) (n : Nat) : List ByteArray := names ++ List.replicate (n - names.length) ⟨#[]⟩
theorem padL_len (names : List ByteArray) (n : Nat) (h : names.length ≤ n) : (padL names n).length = n := by unfold padL; rw [List.length_append, List.length_replicate]; omega
noncomputable def teZ (K : List ByteArray) (l : List It) : List Int := bif bB (AllT l) then txP K l l.length else []
noncomputable def teS (l : List It) : ByteArray := bif bB (AllT l) then ⟨#[]⟩ else invB
theorem te_ok {K : List ByteArray} {l : List It} (h : AllT l) : teZ K l = txP K l l.length ∧ teS l = ⟨#[]⟩ := by unfold teZ teS; rw [bB_yes h]; exact ⟨rfl, rfl⟩
theorem te_bad {K : List ByteArray} {l : List It} (h : ¬ AllT l) : teZ K l = [] ∧ teS l = invB := by unfold teZ teS; rw [bB_no h]; exact ⟨rfl, rfl⟩

/-! The whole. -/
def NmOk (n : Int) (names : List ByteArray) : Prop := 0 ≤ n ∧ n ≤ 40 ∧ (names.length = 0 ∨ (names.length : Int) = n)
noncomputable def rkZ (k : Int) (items : List It) (names : List ByteArray) (n : Nat) : List Int := if k = 1 then lgP items (lgM items n) else if k = 2 then nuZ items n else if k = 3 then teZ (padL names n) items else []
noncomputable def rkS (k : Int) (items : List It) : ByteArray := if k = 2 then nuS items else if k = 3 then teS items else if 4 ≤ k then invB else ⟨#[]⟩
noncomputable def rsZ (n : Int) (names : List ByteArray) (s : Vec) : List Int := bif bB (ValidV s ∧ NmOk n names) then (match s with | .mk k items _ _ _ _ _ _ => rkZ k items names n.toNat) else []
noncomputable def rsS (n : Int) (names : List ByteArray) (s : Vec) : ByteArray := bif bB (ValidV s) then (bif bB (NmOk n names) then (match s with | .mk k items _ _ _ _ _ _ => rkS k items) else innB) else badB
theorem rs_bad {n : Int} {names : List ByteArray} {s : Vec} (h : ¬ ValidV s) : rsZ n names s = [] ∧ rsS n names s = badB := by unfold rsZ rsS; rw [bB_no h, bB_no (fun e => h e.1)]; exact ⟨rfl, rfl⟩
theorem rs_names {n : Int} {names : List ByteArray} {s : Vec} (h : ValidV s) (h2 : ¬ NmOk n names) : rsZ n names s = [] ∧ rsS n names s = innB := by unfold rsZ rsS; rw [bB_yes h, bB_no h2, bB_no (fun e => h2 e.2)]; exact ⟨rfl, rfl⟩
theorem rs_yes {n : Int} {names : List ByteArray} {k : Int} {items : List It} {parts : List Vec} {nm cls lev : List ByteArray} {code env : Int} (h : ValidV (.mk k items parts nm cls lev code env)) (h2 : NmOk n names) : rsZ n names (.mk k items parts nm cls lev code env) = rkZ k items names n.toNat ∧ rsS n names (.mk k items parts nm cls lev code env) = rkS k items := by
  unfold rsZ rsS; rw [bB_yes h, bB_yes h2, bB_yes ⟨h, h2⟩]; exact ⟨rfl, rfl⟩
theorem rk_lgc {items : List It} {names : List ByteArray} {n : Nat} : rkZ 1 items names n = lgP items (lgM items n) ∧ rkS 1 items = ⟨#[]⟩ := ⟨rfl, rfl⟩
theorem rk_num {items : List It} {names : List ByteArray} {n : Nat} : rkZ 2 items names n = nuZ items n ∧ rkS 2 items = nuS items := ⟨rfl, rfl⟩
theorem rk_txt {items : List It} {names : List ByteArray} {n : Nat} : rkZ 3 items names n = teZ (padL names n) items ∧ rkS 3 items = teS items := ⟨rfl, rfl⟩
theorem rk_null {items : List It} {names : List ByteArray} {n : Nat} : rkZ 0 items names n = [] ∧ rkS 0 items = ⟨#[]⟩ := ⟨rfl, rfl⟩
theorem rk_list {k : Int} (h : 4 ≤ k) {items : List It} {names : List ByteArray} {n : Nat} : rkZ k items names n = [] ∧ rkS k items = invB := by
  unfold rkZ rkS
  rw [if_neg (by omega), if_neg (by omega), if_neg (by omega), if_neg (by omega), if_neg (by omega), if_pos h]
  exact ⟨rfl, rfl⟩
end Go.Proofs.YtpekdmocgjjhnaaGreat

/- What is owned at a depth is owned at every greater one. -/
namespace Go.Proofs.YtpekdmocgjjhnaaGreat
open Go.RowKit
set_option maxRecDepth 100000
set_option linter.unusedVariables false

/-! What is owned at a depth is owned at every greater one. -/
theorem OwnVec.more : ∀ {w : World} (d : Nat) (v : Vec) (y : Value) (F : List Nat), OwnVec w d v y F → OwnVec w (d + 1) v y F
  | _, 0, _, _, _, h => by unfold OwnVec at h; exact h.elim
  | w, d + 1, .mk k items parts names cls levels code env, y, F, h => by
    unfold OwnVec at h ⊢
    obtain ⟨ai, ci, ap, cp, an, cn, ac, cc, al, cl, Fi, Fp, Fn, Fc, Fl, e, eF, hc, hI, hN, hC, hL, hP⟩ := h
    refine ⟨ai, ci, ap, cp, an, cn, ac, cc, al, cl, Fi, Fp, Fn, Fc, Fl, e, eF, hc, hI, hN, hC, hL, hP.imp id ?_⟩
    rintro ⟨b, C, Fs, e1, e2, e3, hb, hs, hp⟩
    refine ⟨b, C, Fs, e1, e2, e3, hb, hs, fun i hi => ?_⟩
    obtain ⟨val, ho, h8⟩ := hp i hi
    exact ⟨val, OwnVec.more d _ _ _ ho, h8⟩
theorem Own.le {d d' : Nat} (h : d ≤ d') {v : Vec} {y : Value} {lo hi : Nat} {w : World} (ho : Own d v y lo hi w) : Own d' v y lo hi w := by
  induction h with
  | refl => exact ho
  | step _ ih =>
    obtain ⟨F, q1, q2, q3⟩ := ih.out
    exact ⟨F, OwnVec.more _ _ _ _ q1, q2, q3⟩
end Go.Proofs.YtpekdmocgjjhnaaGreat

/- The end of a region that appends one element to a field, and where the new slice lies. -/
namespace Go.Proofs.YtpekdmocgjjhnaaGreat
open Go.RowKit
set_option maxRecDepth 100000
set_option linter.unusedVariables false

section
variable {P : Program} {ops : Array Oper} {Q : Exit → Act → World → Prop} {S : World → Prop}
variable {r : List (Nat × Bool)} {a : Act} {e : List (Nat × Value)} {w : World} {i d : Nat} {g : Option (Nat × Bool)} {v : Value}
/-- An append onto a row of the call's own, and where the new slice lies. -/
theorem run_appAt {t el : TypeId} {x y : Operand} {v0 : Value} (ho : opAt ops i = some (some d, .call { callee := .builtin .append, args := [x, y].toArray, argTypes := [t, t].toArray }, g)) (hd : Nat.blt d a.tmps.size = true) (hw : wantE ops a e g = some true)
    (hx : lookO a e x = v0) (ad : Addr) (m c : Nat) (hy : lookO a e y = .slice (some ad) m c)
    (base : Nat) (ie : TypeInfo) (z : Value) (size bytes : Nat) (ht : P.underlying t = some (.slice el)) (hi : P.info? el = some ie) (hz : ie.zero = some z) (hsize : ie.size = size) (hby : ie.bytes = bytes) (hzs : z.cells.size = size) (hsz : 0 < size)
    (n : Nat) (xs : List Value) (hown : w.ownsRow base el size v0 n xs) (news : List Value) (hl : news.length = m * size) (hnews : ∀ j u, news[j]? = some u → w.cell? (ad.add j) = some u) (h1 : ∀ u ∈ news, u.oneCell' = true)
    (h63 : n + m ≤ maxLen) (hbytes : (n + m) * bytes ≤ 140737488355328) (hbase : base ≤ w.heap.size)
    (h : ∀ v' w', w'.ownsRow base el size v' (n + m) (xs ++ news) → w.grownBy w' v0.ownBlock → (v'.ownBlock = v0.ownBlock ∨ v'.ownBlock = some w.heap.size) → S w' ∧ RunE P ops Q S r a ((d, v') :: e) w') : RunE P ops Q S ((i, false) :: r) a e w := by
  refine ⟨fun hk => ?_⟩
  obtain ⟨o, hi', k1, k2, k3⟩ := opAt_spec ho
  show wpOp P ops Q i (fun a' w' => (lastK ops i = true ∨ S w') ∧ seqH P ops Q S r a' w') (putAll a e) w
  unfold wpOp
  simp only [hi', if_pos (wantE_spec hk (by rw [k3]; exact hw))]
  left
  unfold Oper.wp
  rw [eval_putAll a e hk]
  obtain ⟨v', w', hr, h2, h3, _, h4⟩ := run_append_own_at (P := P) w base t o.type el ie z size bytes ht hi hz hsize hby hzs hsz v0 n xs hown ad m c news hl hnews h1 h63 hbytes hbase
  obtain ⟨hS, hR⟩ := h v' w' h2 h3 h4
  unfold execOp
  simp only [k2, resolve, invoke, builtin, Sem.run_bind, Sem.run_pure, Result.andThen_ok, List.map_toArray, List.map_cons, List.map_nil, hx, hy, hr]
  simp only [Oper.upon]
  rw [k1]
  exact ⟨.inr hS, hR.out (keysIn_cons hd hk)⟩
end
theorem store_strs {w : World} {p : Addr} {s : Option Addr} {n c : Nat} (h : ∃ x, w.cell? p = some x) (hf : w.frozen? p = false) : (Instr.storeAt 24 (.pointer (some p)) (.slice s n c)).run Tryz.prog w = .ok () (w.setCell p (.slice s n c)) := by
  obtain ⟨x, hx⟩ := h
  simp [Instr.storeAt, go_sem, hx, hf]
theorem store_vecs {w : World} {p : Addr} {s : Option Addr} {n c : Nat} (h : ∃ x, w.cell? p = some x) (hf : w.frozen? p = false) : (Instr.storeAt 29 (.pointer (some p)) (.slice s n c)).run Tryz.prog w = .ok () (w.setCell p (.slice s n c)) := by
  obtain ⟨x, hx⟩ := h
  simp [Instr.storeAt, go_sem, hx, hf]
theorem fill_txt (z : ByteArray) : Instr.fill (fun i => some (i * 1, 1)) ((Array.range (1 * 1)).map ((Value.string ⟨#[]⟩).cells[· % (Value.string ⟨#[]⟩).cells.size]!)) [(0, .string z)] = some #[.string z] := by
  have h := Great.fill_whole (s := 1) (by decide) [.string z] ((Array.range (1 * 1)).map ((Value.string ⟨#[]⟩).cells[· % (Value.string ⟨#[]⟩).cells.size]!)) (fun v hv => by obtain rfl := List.mem_singleton.1 hv; rfl) (by simp)
  exact h
theorem fill_vec (c0 c1 c2 c3 c4 c5 c6 c7 : Value) : Instr.fill (fun i => some (i * 8, 8)) ((Array.range (1 * 8)).map ((Value.agg #[.int .i64 0, .slice none 0 0, .slice none 0 0, .slice none 0 0, .slice none 0 0, .slice none 0 0, .int .i64 0, .int .i64 0]).cells[· % (Value.agg #[.int .i64 0, .slice none 0 0, .slice none 0 0, .slice none 0 0, .slice none 0 0, .slice none 0 0, .int .i64 0, .int .i64 0]).cells.size]!)) [(0, .agg #[c0, c1, c2, c3, c4, c5, c6, c7])] = some #[c0, c1, c2, c3, c4, c5, c6, c7] := by
  have h := Great.fill_whole (s := 8) (by decide) [.agg #[c0, c1, c2, c3, c4, c5, c6, c7]] ((Array.range (1 * 8)).map ((Value.agg #[.int .i64 0, .slice none 0 0, .slice none 0 0, .slice none 0 0, .slice none 0 0, .slice none 0 0, .int .i64 0, .int .i64 0]).cells[· % (Value.agg #[.int .i64 0, .slice none 0 0, .slice none 0 0, .slice none 0 0, .slice none 0 0, .slice none 0 0, .int .i64 0, .int .i64 0]).cells.size]!)) (fun v hv => by obtain rfl := List.mem_singleton.1 hv; rfl) (by simp)
  exact h
theorem tail_its3 {ops : Array Oper} {Q : Exit → Act → World → Prop} {a : Act} {e : List (Nat × Value)} {w0 w1 : World} {L : List (Nat × TypeId × Array Value)} {i1 i2 i3 i4 d1 d2 d4 b j base : Nat} {x s p : Operand} {v0 c : Value} {C : Array Value} {tt : TypeId} (z : It) {l : List It}
    (ho1 : opAt ops i1 = some (some d1, .buildSlice 28 1 #[(0, x)], none)) (hd1 : Nat.blt d1 a.tmps.size = true) (hx : lookO a e x = .agg #[.int .i64 z.n, .int .i64 z.d, .string z.t])
    (ho2 : opAt ops i2 = some (some d2, .call { callee := .builtin .append, args := [s, .tmp d1].toArray, argTypes := [28, 28].toArray }, none)) (hd2 : Nat.blt d2 a.tmps.size = true) (hs : ∀ u, lookO a ((d1, u) :: e) s = v0)
    (ho4 : opAt ops i4 = some (some d4, .fieldAddr 31 p j, none)) (hd4 : Nat.blt d4 a.tmps.size = true) (hf : Nat.blt j 8 = true) (hp : ∀ u u', lookO a ((d2, u') :: (d1, u) :: e) p = .pointer (some ⟨b, 0, none⟩))
    (ho3 : opAt ops i3 = some (none, .store 28 (.tmp d4) (.tmp d2), none)) (hl : lastK ops i3 = true) (hne : Nat.beq d4 d2 = false)
    (H : HeldC w0 w1 L) (hown : w1.ownsRow base 66 3 v0 l.length (itCells l)) (hn : l.length ≤ 1048576) (hbase : base ≤ w1.heap.size) (hw0 : w0.heap.size ≤ base) (m : (b, tt, C) ∈ L) (hj : C[j]? = some c) (hb : b < base) (hb0 : w0.heap.size ≤ b)
    (hL : ∀ q ∈ L, ∀ k, v0.ownBlock = some k → q.1 ≠ k)
    (h : ∀ v' W, (∃ sa n c, v' = .slice sa n c) → W.heap[b]? = some (.cells (C.setIfInBounds j v') tt (0, 0)) → W.ownsRow base 66 3 v' (l ++ [z]).length (itCells (l ++ [z])) → Below w0.heap.size w0 W → w1.heap.size ≤ W.heap.size →
      Moved w1 v0 v' → (∀ g, g < w1.heap.size → g ≠ b → v0.ownBlock ≠ some g → W.heap[g]? = w1.heap[g]?) → Q .normal (putAll a ((d4, .pointer (some ⟨b, j, none⟩)) :: (d2, v') :: (d1, .slice (some ⟨w1.heap.size, 0, none⟩) 1 1) :: e)) W) :
    RunE Tryz.prog ops Q (fun w' => HeldC w0 w' L) [(i1, false), (i2, false), (i4, true), (i3, false)] a e w1 := by
  obtain ⟨ie, hie, hz, hsz, hby⟩ := info_parts infoItm3
  obtain ⟨W1, hW1⟩ : ∃ W, w1.alloc (.cells #[.int .i64 z.n, .int .i64 z.d, .string z.t] 66) = W := ⟨_, rfl⟩
  have H1 : HeldC w0 W1 L := hW1 ▸ heldC_alloc H _
  have hK : W1.heap[w1.heap.size]? = some (.cells #[.int .i64 z.n, .int .i64 z.d, .string z.t] 66 (0, 0)) := hW1 ▸ blk_new w1 _ rfl
  have hO : W1.ownsRow base 66 3 v0 l.length (itCells l) := hW1 ▸ ownsRow_below hown (below1 w1 _)
  have hS1 : w1.heap.size + 1 = W1.heap.size := by rw [← hW1]; simp
  have hE : ∀ g, g < w1.heap.size → W1.heap[g]? = w1.heap[g]? := fun g hg => hW1 ▸ (below1 w1 _).block g hg
  refine run_build ho1 hd1 rfl hx Tryz.underlying28 hie hz (by rw [hsz]; decide) (by rw [hsz]; decide) (by rw [hsz]; exact fill_item z) (by rw [hW1]; exact H1) ?_
  rw [hW1]
  refine run_appAt ho2 hd2 rfl (hs _) ⟨w1.heap.size, 0, none⟩ 1 1 (look_new _ _) base ie _ 3 32 Tryz.underlying28 hie hz hsz hby rfl (by decide) (l.length) (itCells l) hO [.int .i64 z.n, .int .i64 z.d, .string z.t] rfl (fun q u hq => ?_) (fun u hu => ?_) (by unfold maxLen; omega) (by omega) (by omega) (fun v' W2 hO2 hg2 hwh => ?_)
  · rw [addr_add, Nat.zero_add]
    refine cellOf hK ?_
    rw [← hq]
    have hlt : q < 3 := by have := (List.getElem?_eq_some_iff.1 hq).1; simpa using this
    rcases (show q = 0 ∨ q = 1 ∨ q = 2 by omega) with rfl | rfl | rfl <;> rfl
  · simp only [List.mem_cons, List.not_mem_nil, or_false] at hu
    rcases hu with rfl | rfl | rfl <;> rfl
  have H2 : HeldC w0 W2 L := heldC_grown H1 hg2 (fun k hk => ⟨by have := (hO.lt k hk).1; omega, fun q hq => hL q hq k hk⟩)
  have hv : ∃ sa n c, v' = .slice sa n c := by
    obtain ⟨_, h | ⟨g, cap, cur, e, _⟩⟩ := hO2
    · exact ⟨_, _, _, h.1⟩
    · exact ⟨_, _, _, e⟩
  obtain ⟨sa, n, c', rfl⟩ := hv
  refine ⟨H2, runC_partV hf ho4 hd4 rfl (hp _ _) (run_last_field hl ho3 rfl store_its (look_new _ _) (look_next hne) (heldC_at H2 m) hj (fun W3 hW3 => run_done (h _ W3 ⟨_, _, _, rfl⟩ ?_ ?_ ?_ ?_ ?_ ?_)))⟩
  · subst hW3; exact Joins.block_setCell (heldC_at H2 m) _
  · subst hW3; have h5 := ownsRow_set (j := j) (u := .slice sa n c') hO2 hb; rw [show (l ++ [z]).length = l.length + 1 by simp, itCells_app]; exact h5
  · subst hW3; exact H2.1.setCell (p := ⟨b, j, none⟩) hb0 _
  · subst hW3; have := hg2.size; simp; omega
  · rcases hwh with e | e
    · exact .inl e
    · exact .inr ⟨_, e, by omega⟩
  · intro g hg hne hk; subst hW3; rw [Below.heap_setCell _ _ _ _ hne, hg2.block g (by omega) (fun e => hk (by rw [← e])), hE g hg]
theorem tail_txs3 {ops : Array Oper} {Q : Exit → Act → World → Prop} {a : Act} {e : List (Nat × Value)} {w0 w1 : World} {L : List (Nat × TypeId × Array Value)} {i1 i2 i3 i4 d1 d2 d4 b j base : Nat} {x s p : Operand} {v0 c : Value} {C : Array Value} {tt : TypeId} (z : ByteArray) {l : List ByteArray}
    (ho1 : opAt ops i1 = some (some d1, .buildSlice 24 1 #[(0, x)], none)) (hd1 : Nat.blt d1 a.tmps.size = true) (hx : lookO a e x = .string z)
    (ho2 : opAt ops i2 = some (some d2, .call { callee := .builtin .append, args := [s, .tmp d1].toArray, argTypes := [24, 24].toArray }, none)) (hd2 : Nat.blt d2 a.tmps.size = true) (hs : ∀ u, lookO a ((d1, u) :: e) s = v0)
    (ho4 : opAt ops i4 = some (some d4, .fieldAddr 31 p j, none)) (hd4 : Nat.blt d4 a.tmps.size = true) (hf : Nat.blt j 8 = true) (hp : ∀ u u', lookO a ((d2, u') :: (d1, u) :: e) p = .pointer (some ⟨b, 0, none⟩))
    (ho3 : opAt ops i3 = some (none, .store 24 (.tmp d4) (.tmp d2), none)) (hl : lastK ops i3 = true) (hne : Nat.beq d4 d2 = false)
    (H : HeldC w0 w1 L) (hown : w1.ownsRow base 9 1 v0 l.length (l.map Value.string)) (hn : l.length ≤ 1048576) (hbase : base ≤ w1.heap.size) (hw0 : w0.heap.size ≤ base) (m : (b, tt, C) ∈ L) (hj : C[j]? = some c) (hb : b < base) (hb0 : w0.heap.size ≤ b)
    (hL : ∀ q ∈ L, ∀ k, v0.ownBlock = some k → q.1 ≠ k)
    (h : ∀ v' W, (∃ sa n c, v' = .slice sa n c) → W.heap[b]? = some (.cells (C.setIfInBounds j v') tt (0, 0)) → W.ownsRow base 9 1 v' (l ++ [z]).length ((l ++ [z]).map Value.string) → Below w0.heap.size w0 W → w1.heap.size ≤ W.heap.size →
      Moved w1 v0 v' → (∀ g, g < w1.heap.size → g ≠ b → v0.ownBlock ≠ some g → W.heap[g]? = w1.heap[g]?) → Q .normal (putAll a ((d4, .pointer (some ⟨b, j, none⟩)) :: (d2, v') :: (d1, .slice (some ⟨w1.heap.size, 0, none⟩) 1 1) :: e)) W) :
    RunE Tryz.prog ops Q (fun w' => HeldC w0 w' L) [(i1, false), (i2, false), (i4, true), (i3, false)] a e w1 := by
  obtain ⟨ie, hie, hz, hsz, hby⟩ := info_parts infoStr
  obtain ⟨W1, hW1⟩ : ∃ W, w1.alloc (.cells #[.string z] 9) = W := ⟨_, rfl⟩
  have H1 : HeldC w0 W1 L := hW1 ▸ heldC_alloc H _
  have hK : W1.heap[w1.heap.size]? = some (.cells #[.string z] 9 (0, 0)) := hW1 ▸ blk_new w1 _ rfl
  have hO : W1.ownsRow base 9 1 v0 l.length (l.map Value.string) := hW1 ▸ ownsRow_below hown (below1 w1 _)
  have hS1 : w1.heap.size + 1 = W1.heap.size := by rw [← hW1]; simp
  have hE : ∀ g, g < w1.heap.size → W1.heap[g]? = w1.heap[g]? := fun g hg => hW1 ▸ (below1 w1 _).block g hg
  refine run_build ho1 hd1 rfl hx Tryz.underlying24 hie hz (by rw [hsz]; decide) (by rw [hsz]; decide) (by rw [hsz]; exact fill_txt z) (by rw [hW1]; exact H1) ?_
  rw [hW1]
  refine run_appAt ho2 hd2 rfl (hs _) ⟨w1.heap.size, 0, none⟩ 1 1 (look_new _ _) base ie _ 1 16 Tryz.underlying24 hie hz hsz hby rfl (by decide) (l.length) (l.map Value.string) hO [.string z] rfl (fun q u hq => ?_) (fun u hu => ?_) (by unfold maxLen; omega) (by omega) (by omega) (fun v' W2 hO2 hg2 hwh => ?_)
  · rw [addr_add, Nat.zero_add]
    refine cellOf hK ?_
    rw [← hq]
    have hlt : q < 1 := by have := (List.getElem?_eq_some_iff.1 hq).1; simpa using this
    obtain rfl : q = 0 := by omega
    rfl
  · simp only [List.mem_cons, List.not_mem_nil, or_false] at hu
    rcases hu with rfl <;> rfl
  have H2 : HeldC w0 W2 L := heldC_grown H1 hg2 (fun k hk => ⟨by have := (hO.lt k hk).1; omega, fun q hq => hL q hq k hk⟩)
  have hv : ∃ sa n c, v' = .slice sa n c := by
    obtain ⟨_, h | ⟨g, cap, cur, e, _⟩⟩ := hO2
    · exact ⟨_, _, _, h.1⟩
    · exact ⟨_, _, _, e⟩
  obtain ⟨sa, n, c', rfl⟩ := hv
  refine ⟨H2, runC_partV hf ho4 hd4 rfl (hp _ _) (run_last_field hl ho3 rfl store_strs (look_new _ _) (look_next hne) (heldC_at H2 m) hj (fun W3 hW3 => run_done (h _ W3 ⟨_, _, _, rfl⟩ ?_ ?_ ?_ ?_ ?_ ?_)))⟩
  · subst hW3; exact Joins.block_setCell (heldC_at H2 m) _
  · subst hW3; have h5 := ownsRow_set (j := j) (u := .slice sa n c') hO2 hb; rw [show (l ++ [z]).length = l.length + 1 by simp, List.map_append]; exact h5
  · subst hW3; exact H2.1.setCell (p := ⟨b, j, none⟩) hb0 _
  · subst hW3; have := hg2.size; simp; omega
  · rcases hwh with e | e
    · exact .inl e
    · exact .inr ⟨_, e, by omega⟩
  · intro g hg hne hk; subst hW3; rw [Below.heap_setCell _ _ _ _ hne, hg2.block g (by omega) (fun e => hk (by rw [← e])), hE g hg]
theorem tail_vec3 {ops : Array Oper} {Q : Exit → Act → World → Prop} {a : Act} {e : List (Nat × Value)} {w0 w1 : World} {L : List (Nat × TypeId × Array Value)} {i1 i2 i3 i4 d1 d2 d4 b j base : Nat} {x s p : Operand} {v0 c : Value} {C : Array Value} {tt : TypeId} {c0 c1 c2 c3 c4 c5 c6 c7 : Value} (HC : ∀ u ∈ [c0, c1, c2, c3, c4, c5, c6, c7], u.oneCell' = true) {n : Nat} {xs : List Value}
    (ho1 : opAt ops i1 = some (some d1, .buildSlice 29 1 #[(0, x)], none)) (hd1 : Nat.blt d1 a.tmps.size = true) (hx : lookO a e x = .agg #[c0, c1, c2, c3, c4, c5, c6, c7])
    (ho2 : opAt ops i2 = some (some d2, .call { callee := .builtin .append, args := [s, .tmp d1].toArray, argTypes := [29, 29].toArray }, none)) (hd2 : Nat.blt d2 a.tmps.size = true) (hs : ∀ u, lookO a ((d1, u) :: e) s = v0)
    (ho4 : opAt ops i4 = some (some d4, .fieldAddr 31 p j, none)) (hd4 : Nat.blt d4 a.tmps.size = true) (hf : Nat.blt j 8 = true) (hp : ∀ u u', lookO a ((d2, u') :: (d1, u) :: e) p = .pointer (some ⟨b, 0, none⟩))
    (ho3 : opAt ops i3 = some (none, .store 29 (.tmp d4) (.tmp d2), none)) (hl : lastK ops i3 = true) (hne : Nat.beq d4 d2 = false)
    (H : HeldC w0 w1 L) (hown : w1.ownsRow base 31 8 v0 n (xs)) (hn : n ≤ 1048576) (hbase : base ≤ w1.heap.size) (hw0 : w0.heap.size ≤ base) (m : (b, tt, C) ∈ L) (hj : C[j]? = some c) (hb : b < base) (hb0 : w0.heap.size ≤ b)
    (hL : ∀ q ∈ L, ∀ k, v0.ownBlock = some k → q.1 ≠ k)
    (h : ∀ v' W, (∃ sa n c, v' = .slice sa n c) → W.heap[b]? = some (.cells (C.setIfInBounds j v') tt (0, 0)) → W.ownsRow base 31 8 v' (n + 1) (xs ++ [c0, c1, c2, c3, c4, c5, c6, c7]) → Below w0.heap.size w0 W → w1.heap.size ≤ W.heap.size →
      Moved w1 v0 v' → (∀ g, g < w1.heap.size → g ≠ b → v0.ownBlock ≠ some g → W.heap[g]? = w1.heap[g]?) → Q .normal (putAll a ((d4, .pointer (some ⟨b, j, none⟩)) :: (d2, v') :: (d1, .slice (some ⟨w1.heap.size, 0, none⟩) 1 1) :: e)) W) :
    RunE Tryz.prog ops Q (fun w' => HeldC w0 w' L) [(i1, false), (i2, false), (i4, true), (i3, false)] a e w1 := by
  obtain ⟨ie, hie, hz, hsz, hby⟩ := info_parts infoVec8
  obtain ⟨W1, hW1⟩ : ∃ W, w1.alloc (.cells #[c0, c1, c2, c3, c4, c5, c6, c7] 31) = W := ⟨_, rfl⟩
  have H1 : HeldC w0 W1 L := hW1 ▸ heldC_alloc H _
  have hK : W1.heap[w1.heap.size]? = some (.cells #[c0, c1, c2, c3, c4, c5, c6, c7] 31 (0, 0)) := hW1 ▸ blk_new w1 _ rfl
  have hO : W1.ownsRow base 31 8 v0 n (xs) := hW1 ▸ ownsRow_below hown (below1 w1 _)
  have hS1 : w1.heap.size + 1 = W1.heap.size := by rw [← hW1]; simp
  have hE : ∀ g, g < w1.heap.size → W1.heap[g]? = w1.heap[g]? := fun g hg => hW1 ▸ (below1 w1 _).block g hg
  refine run_build ho1 hd1 rfl hx Tryz.underlying29 hie hz (by rw [hsz]; decide) (by rw [hsz]; decide) (by rw [hsz]; exact fill_vec _ _ _ _ _ _ _ _) (by rw [hW1]; exact H1) ?_
  rw [hW1]
  refine run_appAt ho2 hd2 rfl (hs _) ⟨w1.heap.size, 0, none⟩ 1 1 (look_new _ _) base ie _ 8 144 Tryz.underlying29 hie hz hsz hby rfl (by decide) (n) (xs) hO [c0, c1, c2, c3, c4, c5, c6, c7] rfl (fun q u hq => ?_) (fun u hu => ?_) (by unfold maxLen; omega) (by omega) (by omega) (fun v' W2 hO2 hg2 hwh => ?_)
  · rw [addr_add, Nat.zero_add]
    refine cellOf hK ?_
    rw [← hq]
    have hlt : q < 8 := by have := (List.getElem?_eq_some_iff.1 hq).1; simpa using this
    rcases (show q = 0 ∨ q = 1 ∨ q = 2 ∨ q = 3 ∨ q = 4 ∨ q = 5 ∨ q = 6 ∨ q = 7 by omega) with rfl | rfl | rfl | rfl | rfl | rfl | rfl | rfl <;> rfl
  · simp only [List.mem_cons, List.not_mem_nil, or_false] at hu
    rcases hu with rfl | rfl | rfl | rfl | rfl | rfl | rfl | rfl <;> exact HC _ (by simp)
  have H2 : HeldC w0 W2 L := heldC_grown H1 hg2 (fun k hk => ⟨by have := (hO.lt k hk).1; omega, fun q hq => hL q hq k hk⟩)
  have hv : ∃ sa n c, v' = .slice sa n c := by
    obtain ⟨_, h | ⟨g, cap, cur, e, _⟩⟩ := hO2
    · exact ⟨_, _, _, h.1⟩
    · exact ⟨_, _, _, e⟩
  obtain ⟨sa, n, c', rfl⟩ := hv
  refine ⟨H2, runC_partV hf ho4 hd4 rfl (hp _ _) (run_last_field hl ho3 rfl store_vecs (look_new _ _) (look_next hne) (heldC_at H2 m) hj (fun W3 hW3 => run_done (h _ W3 ⟨_, _, _, rfl⟩ ?_ ?_ ?_ ?_ ?_ ?_)))⟩
  · subst hW3; exact Joins.block_setCell (heldC_at H2 m) _
  · subst hW3; have h5 := ownsRow_set (j := j) (u := .slice sa n c') hO2 hb; exact h5
  · subst hW3; exact H2.1.setCell (p := ⟨b, j, none⟩) hb0 _
  · subst hW3; have := hg2.size; simp; omega
  · rcases hwh with e | e
    · exact .inl e
    · exact .inr ⟨_, e, by omega⟩
  · intro g hg hne hk; subst hW3; rw [Below.heap_setCell _ _ _ _ hne, hg2.block g (by omega) (fun e => hk (by rw [← e])), hE g hg]
end Go.Proofs.YtpekdmocgjjhnaaGreat

/- withoutElements, selectElements. -/
namespace Go.Proofs.YtpekdmocgjjhnaaGreat
open Go.RowKit
set_option maxRecDepth 100000
set_option linter.unusedVariables false

theorem TxZ.form {w wr : World} {l : List ByteArray} {v : Value} (h : TxZ w wr l v) : ∃ s n c, v = .slice s n c := by
  obtain ⟨_, ⟨e, _⟩ | ⟨g, cap, cur, e, _⟩⟩ := h.row
  · exact ⟨_, _, _, e⟩
  · exact ⟨_, _, _, e⟩
theorem TxZ.slice {w wr : World} {l : List ByteArray} {s : Option Addr} {n c : Nat} (h : TxZ w wr l (.slice s n c)) : n = l.length := by
  obtain ⟨_, ⟨e, h0⟩ | ⟨g, cap, cur, e, _⟩⟩ := h.row
  · simp only [Value.slice.injEq] at e; omega
  · simp only [Value.slice.injEq] at e; exact e.2.1
theorem TxZ.texts {w wr : World} {l : List ByteArray} {s : Option Addr} {n c : Nat} (h : TxZ w wr l (.slice s n c)) : TextsAt w.heap.size wr.heap.size wr s l := by
  obtain ⟨a, c', F, e, ho, _, hr, _⟩ := txs_of_row h.row
  simp only [Value.slice.injEq] at e
  obtain ⟨rfl, _, _⟩ := e
  exact ho.at_ hr
/-- A copy of texts, with its row. -/
theorem wpList_copyTz {w0 w : World} {ops : Array Oper} {rest : List Oper} {o : Oper} {a : Act} {Q : Exit → Act → World → Prop} (hgd : o.guard = none) (s x : Operand)
    (ho : o.op = .call { callee := .builtin .append, args := #[s, x], argTypes := #[24, 24] }) (v0 : Value) (hs : a.eval s = v0)
    (hv0 : v0 = .slice none 0 0 ∨ ∃ g, w0.heap.size ≤ g ∧ v0 = .slice (some ⟨g, 0, none⟩) 0 0 ∧ w.heap[g]? = some (.cells #[] 9 (0, 0))) (hb : Below w0.heap.size w0 w)
    (ad : Option Addr) (c : Nat) (l : List ByteArray) (lo hi : Nat) (hx : a.eval x = .slice ad l.length c) (hT : TextsAt lo hi w ad l) (hn : l.length ≤ 1048576)
    (h : ∀ v' w', TxZ w0 w' l v' → wpList Tryz.prog ops Q rest (a.put o.dst v') w') : wpList Tryz.prog ops Q (o :: rest) a w := by
  have hown : w.ownsRow w0.heap.size 9 1 v0 0 [] := by
    rcases hv0 with rfl | ⟨g, hg, rfl, hb⟩
    · exact ⟨rfl, .inl ⟨rfl, rfl⟩⟩
    · exact ⟨rfl, .inr ⟨g, 0, #[], rfl, hg, hb, Nat.le_refl _, Nat.zero_le _, rfl, rfl⟩⟩
  by_cases hpos : 0 < l.length
  · obtain ⟨b, off, rfl⟩ := texts_some hT hpos
    obtain ⟨i0, hi0, hz0, hz1, hz2⟩ := info_parts infoStr
    refine wpList_append_own w hgd s x 24 ho w0.heap.size 9 i0 (.string ⟨#[]⟩) 1 16 Tryz.underlying24 hi0 hz0 hz1 hz2 rfl (by decide) v0 0 [] hs hown ⟨b, off, none⟩ l.length c (l.map Value.string) hx (by simp) (news_cells hT) (fun u hu => by obtain ⟨s, _, rfl⟩ := List.mem_map.1 hu; rfl) (by unfold maxLen; omega) (by omega) hb.size (fun v' w' h1 h2 _ => ?_)
    exact h v' w' ⟨by simpa using h1, hb.grown h2 hb.size (fun r hr => (hown.lt r hr).1)⟩
  · obtain rfl : l = [] := List.eq_nil_of_length_eq_zero (by omega)
    refine wpList_app0 hgd s x ho v0 hs (hv0.imp id (fun ⟨g, _, e, _⟩ => ⟨g, e⟩)) ad c hx (h _ _ ⟨hown, hb⟩)
theorem implCopyTz (l : List ByteArray) (a : Option Addr) (c lo hi : Nat) (w : World) (h : TextsAt lo hi w a l) (hn : l.length ≤ 1048576) :
    Calls Tryz.prog 69 #[.slice a l.length c] w fun e w' => ∃ v, e = .returned v ∧ TxZ w w' l v := by
  have HT := Lib.hid h
  clear h
  go_enter Tryz.func69, Tryz.ntmps69
  go_wp2_with (at_builtin; refine wpList_copyTz rfl _ _ rfl _ rfl (.inl rfl) (Below.refl _ _) a c l lo hi rfl HT.out hn ?_)
  intro v' w' hc
  have HC := Lib.hid hc
  obtain ⟨_, _, _, rfl⟩ := hc.form
  clear hc
  go_wp2
  go_ret
  exact ⟨_, rfl, HC.out⟩
/-- The Class of a vector with other elements. -/
def kpC (levels cls : List ByteArray) : List ByteArray := match levels with | [] => [] | _ :: _ => cls
theorem kpC_some {levels cls : List ByteArray} (h : levels.length ≠ 0) : kpC levels cls = cls := by
  cases levels with
  | nil => exact absurd rfl h
  | cons x l => rfl
theorem build_vL {w : World} {k : Int} {a c : Option Addr} {n m n' m' : Nat} : (Instr.build 31 #[(0, .int .i64 k), (4, .slice a n m), (5, .slice c n' m')]).run Tryz.prog w = .ok (.agg #[.int .i64 k, .slice none 0 0, .slice none 0 0, .slice none 0 0, .slice a n m, .slice c n' m', .int .i64 0, .int .i64 0]) w := by
  kernel_rfl
section
variable {ops : Array Oper} {Q : Exit → Act → World → Prop} {S : World → Prop}
variable {r : List (Nat × Bool)} {a : Act} {e : List (Nat × Value)} {w : World} {i d : Nat} {g : Option (Nat × Bool)} {v : Value}
theorem run_bldL {k : Int} {z x y : Operand} {sa sb : Option Addr} {n m n' m' : Nat} (ho : opAt ops i = some (some d, .build 31 #[(0, z), (4, x), (5, y)], g)) (hd : Nat.blt d a.tmps.size = true) (hw : wantE ops a e g = some true)
    (hz : lookO a e z = .int .i64 k) (hx : lookO a e x = .slice sa n m) (hy : lookO a e y = .slice sb n' m') (hS : S w)
    (h : RunE Tryz.prog ops Q S r a ((d, .agg #[.int .i64 k, .slice none 0 0, .slice none 0 0, .slice none 0 0, .slice sa n m, .slice sb n' m', .int .i64 0, .int .i64 0]) :: e) w) : RunE Tryz.prog ops Q S ((i, false) :: r) a e w := by
  refine run_eff ho hd hw (fun o h1 => ?_) hS h
  unfold execOp
  simp only [h1, List.map_toArray, List.map_cons, List.map_nil, hx, hy, hz]
  exact run_v build_vL
end
set_option maxHeartbeats 4000000 in
theorem implWithout (d : Nat) (kk : Int) (items : List It) (parts : List Vec) (names cls levels : List ByteArray) (code env : Int) (ai ap an ac al : Option Addr) (ci cp cn cc cl lo hi : Nat) (w : World) (hC : TextsAt lo hi w ac cls) (hL : TextsAt lo hi w al levels) (hhi : hi ≤ w.heap.size) (lc : cls.length ≤ 1048576) (ll : levels.length ≤ 1048576) :
    Calls Tryz.prog 63 #[.agg #[.int .i64 kk, .slice ai items.length ci, .slice ap parts.length cp, .slice an names.length cn, .slice ac cls.length cc, .slice al levels.length cl, .int .i64 code, .int .i64 env]] w fun e w' => ∃ (sc : Option Addr) (nc qc : Nat) (sl : Option Addr) (nl ql : Nat), e = .returned (.agg #[.int .i64 kk, .slice none 0 0, .slice none 0 0, .slice none 0 0, .slice sc nc qc, .slice sl nl ql, .int .i64 0, .int .i64 0]) ∧ Und w.heap.size w' d [] [] [] (kpC levels cls) levels (.slice none 0 0) (.slice none 0 0) (.slice none 0 0) (.slice sc nc qc) (.slice sl nl ql) [] ∧ Below w.heap.size w w' := by
  by_cases h0 : levels.length = 0
  · have e := List.eq_nil_of_length_eq_zero h0
    subst e
    go_enter Tryz.func63, Tryz.ntmps63
    go_wp2_with fail
    exact vec_ret0 rfl rfl rfl (blk_new _ _ (by simp)) ⟨none, 0, 0, none, 0, 0, rfl, Und.start _ _ _, (below1 w _).alloc (by simp) _⟩
  · have CC := Lib.hid (fun (W : World) (hb : Below w.heap.size w W) => implCopyTz cls ac cc lo hi W (hC.below hb hhi) lc)
    have CL := Lib.hid (fun (W : World) (hb : Below w.heap.size w W) => implCopyTz levels al cl lo hi W (hL.below hb hhi) ll)
    have EK := Lib.hid (kpC_some (cls := cls) h0)
    have h0b : (((levels.length : Nat) : Int) == 0) = false := beq_eq_false_iff_ne.2 (by omega)
    clear hC hL
    go_enter Tryz.func63, Tryz.ntmps63
    go_upto_region 3 with (fail)
    obtain ⟨w1, hw1⟩ : ∃ W, (w.alloc (.cells #[.int .i64 kk, .slice ai items.length ci, .slice ap parts.length cp, .slice an names.length cn, .slice ac cls.length cc, .slice al levels.length cl, .int .i64 code, .int .i64 env] 31)).alloc (.cells #[.int .i64 0, .slice none 0 0, .slice none 0 0, .slice none 0 0, .slice none 0 0, .slice none 0 0, .int .i64 0, .int .i64 0] 31) = W := ⟨_, rfl⟩
    have hsz : (w.alloc (.cells #[.int .i64 kk, .slice ai items.length ci, .slice ap parts.length cp, .slice an names.length cn, .slice ac cls.length cc, .slice al levels.length cl, .int .i64 code, .int .i64 env] 31)).heap.size = w.heap.size + 1 := by simp
    have B1 := Lib.hid (show Below w.heap.size w w1 from hw1 ▸ (below1 w _).alloc (by simp) _)
    have KA := Lib.hid (show w1.heap[w.heap.size]? = some (.cells #[.int .i64 kk, .slice ai items.length ci, .slice ap parts.length cp, .slice an names.length cn, .slice ac cls.length cc, .slice al levels.length cl, .int .i64 code, .int .i64 env] 31 (0, 0)) from hw1 ▸ blk_old (blk_new w _ rfl))
    have KR := Lib.hid (show w1.heap[w.heap.size + 1]? = some (.cells #[.int .i64 0, .slice none 0 0, .slice none 0 0, .slice none 0 0, .slice none 0 0, .slice none 0 0, .int .i64 0, .int .i64 0] 31 (0, 0)) from hw1 ▸ hsz ▸ blk_new (w.alloc (.cells #[.int .i64 kk, .slice ai items.length ci, .slice ap parts.length cp, .slice an names.length cn, .slice ac cls.length cc, .slice al levels.length cl, .int .i64 code, .int .i64 env] 31)) (.cells #[.int .i64 0, .slice none 0 0, .slice none 0 0, .slice none 0 0, .slice none 0 0, .slice none 0 0, .int .i64 0, .int .i64 0] 31) rfl)
    rw [hw1]
    clear hw1 hsz
    have SZ : w.heap.size + 1 + 1 ≤ w1.heap.size := by have := (Array.getElem?_eq_some_iff.1 KR.out).1; omega
    have U := Lib.hid (Und.start (w.heap.size + 1 + 1) w1.drew d)
    have H := Lib.hid (show HeldC w w1 ([(w.heap.size, 31, #[.int .i64 kk, .slice ai items.length ci, .slice ap parts.length cp, .slice an names.length cn, .slice ac cls.length cc, .slice al levels.length cl, .int .i64 code, .int .i64 env]), ((w.heap.size + 1), 31, #[.int .i64 0, .slice none 0 0, .slice none 0 0, .slice none 0 0, .slice none 0 0, .slice none 0 0, .int .i64 0, .int .i64 0])]) from heldC_cons (heldC_cons ⟨B1.out, (fun _ h => by cases h)⟩ KR.out) KA.out)
    refine run_region (ops := (opsOf Tryz.f63 3)) (S := fun w' => HeldC w w' ([(w.heap.size, 31, #[.int .i64 kk, .slice ai items.length ci, .slice ap parts.length cp, .slice an names.length cn, .slice ac cls.length cc, .slice al levels.length cl, .int .i64 code, .int .i64 env]), ((w.heap.size + 1), 31, #[.int .i64 0, .slice none 0 0, .slice none 0 0, .slice none 0 0, .slice none 0 0, .slice none 0 0, .int .i64 0, .int .i64 0])])) [(0, true), (1, true), (2, true), (3, true), (5, true), (6, true), (4, false), (7, false), (8, false), (9, false)] (by kernel_rfl) (by kernel_rfl) (by kernel_rfl) (by kernel_rfl) (by kernel_rfl) (fun _ _ _ _ _ h => h) (heldC_drew H.out) ?_
    have H := Lib.hid (heldC_drew H.out)
    refine runC_partV (b := w.heap.size) (by kernel_rfl) (show opAt (opsOf Tryz.f63 3) 0 = some (some 10, .fieldAddr 31 (.tmp 1) 0, none) from by kernel_rfl) (by kernel_rfl) (by kernel_rfl) (by kernel_rfl) ?_
    refine runC_cell (b := w.heap.size) (j := 0) (v := .int .i64 kk) load_int (show opAt (opsOf Tryz.f63 3) 1 = some (some 11, .load 3 (.tmp 10), none) from by kernel_rfl) (by kernel_rfl) (by kernel_rfl) (by kernel_rfl) (List.Mem.head _) rfl ?_
    refine runC_partV (b := w.heap.size) (by kernel_rfl) (show opAt (opsOf Tryz.f63 3) 2 = some (some 12, .fieldAddr 31 (.tmp 1) 4, none) from by kernel_rfl) (by kernel_rfl) (by kernel_rfl) (by kernel_rfl) ?_
    refine runC_cell (b := w.heap.size) (j := 4) (v := .slice ac cls.length cc) load_strs (show opAt (opsOf Tryz.f63 3) 3 = some (some 13, .load 24 (.tmp 12), none) from by kernel_rfl) (by kernel_rfl) (by kernel_rfl) (by kernel_rfl) (List.Mem.head _) rfl ?_
    refine runC_partV (b := w.heap.size) (by kernel_rfl) (show opAt (opsOf Tryz.f63 3) 5 = some (some 15, .fieldAddr 31 (.tmp 1) 5, none) from by kernel_rfl) (by kernel_rfl) (by kernel_rfl) (by kernel_rfl) ?_
    refine runC_cell (b := w.heap.size) (j := 5) (v := .slice al levels.length cl) load_strs (show opAt (opsOf Tryz.f63 3) 6 = some (some 16, .load 24 (.tmp 15), none) from by kernel_rfl) (by kernel_rfl) (by kernel_rfl) (by kernel_rfl) (List.Mem.head _) rfl ?_
    refine run_call (args := [.slice ac cls.length cc]) (show opAt (opsOf Tryz.f63 3) 4 = some (some 14, .call { callee := .value (.func 69), args := [(.tmp 13)].toArray, argTypes := [24].toArray }, none) from by kernel_rfl) (by kernel_rfl) (by kernel_rfl) (by kernel_rfl) (by kernel_rfl) ?_
    refine (CC.out _ H.out.1).mono ?_
    rintro en rw1 ⟨v, rfl, tz⟩
    obtain ⟨sc, nc, qc, rfl⟩ := tz.form
    have U := Lib.hid (U.out.setC (row_lo tz.row SZ) (moved_new tz.row) (fun g _ hg _ => tz.below.block g hg) tz.below.size)
    have SZ := Nat.le_trans SZ tz.below.size
    refine ⟨_, rfl, heldC_call H.out tz.below, ?_⟩
    have H := Lib.hid (heldC_call H.out tz.below)
    clear tz
    refine run_call (args := [.slice al levels.length cl]) (show opAt (opsOf Tryz.f63 3) 7 = some (some 17, .call { callee := .value (.func 69), args := [(.tmp 16)].toArray, argTypes := [24].toArray }, none) from by kernel_rfl) (by kernel_rfl) (by kernel_rfl) (by kernel_rfl) (by kernel_rfl) ?_
    refine (CL.out _ H.out.1).mono ?_
    rintro en rw2 ⟨v, rfl, tz⟩
    obtain ⟨sl, nl, ql, rfl⟩ := tz.form
    have U := Lib.hid (U.out.setL (row_lo tz.row SZ) (moved_new tz.row) (fun g _ hg _ => tz.below.block g hg) tz.below.size)
    have SZ := Nat.le_trans SZ tz.below.size
    refine ⟨_, rfl, heldC_call H.out tz.below, ?_⟩
    have H := Lib.hid (heldC_call H.out tz.below)
    clear tz
    refine run_bldL (k := kk) (sa := sc) (n := nc) (m := qc) (sb := sl) (n' := nl) (m' := ql) (show opAt (opsOf Tryz.f63 3) 8 = some (some 18, .build 31 #[(0, .tmp 11), (4, .tmp 14), (5, .tmp 17)], none) from by kernel_rfl) (by kernel_rfl) (by kernel_rfl) (by kernel_rfl) (by kernel_rfl) (by kernel_rfl) H.out ?_
    refine run_last (by kernel_rfl) (show opAt (opsOf Tryz.f63 3) 9 = some (none, .store 31 (.tmp 2) (.tmp 18), none) from by kernel_rfl) (by kernel_rfl) (by kernel_rfl) (by kernel_rfl) (store_vec8 (heldC_at H.out (List.Mem.tail _ (List.Mem.head _))) (show (#[.int .i64 kk, .slice none 0 0, .slice none 0 0, .slice none 0 0, .slice sc nc qc, .slice sl nl ql, .int .i64 0, .int .i64 0] : Array Value).all (·.oneCell') = true from by simp [Value.oneCell'])) ?_
    refine run_done ?_
    simp only [putAll, Act.put, List.setIfInBounds_toArray, List.set_cons_zero, List.set_cons_succ]
    have KZ := Lib.hid (heldC_at H.out (List.Mem.tail _ (List.Mem.head _)))
    have UF := Lib.hid (U.out.under (b := w.heap.size + 1) (by omega))
    have UR := Lib.hid ((U.out.but (w' := _) UF.out (fun g _ hg => row_old (c := #[.int .i64 kk, .slice none 0 0, .slice none 0 0, .slice none 0 0, .slice sc nc qc, .slice sl nl ql, .int .i64 0, .int .i64 0]) rfl hg) (by simp)).wide (lo' := w.heap.size) (by omega))
    go_wp2
    exact vec_ret0 rfl rfl rfl (row_set KZ.out) ⟨sc, nc, qc, sl, nl, ql, rfl, (by rw [EK.out]; exact UR.out), below_row H.out.1 (show w.heap.size ≤ w.heap.size + 1 by omega) _⟩
/-- The elements of a vector at indexes. -/
noncomputable def selV (kk : Int) (items : List It) (parts : List Vec) (names cls levels : List ByteArray) (idx : List Nat) : Vec := .mk kk (pkL noI items idx) (pkL noV parts idx) (clnN (pkL ⟨#[]⟩ names idx)) (kpC levels cls) levels 0 0
theorem pkL_len {α : Type} (z : α) (l : List α) (idx : List Nat) : (pkL z l idx).length ≤ idx.length := by
  cases l with
  | nil => exact Nat.zero_le _
  | cons x l => unfold pkL; simp
theorem ItR.slice {w wr : World} {l : List It} {s : Option Addr} {n c : Nat} (h : ItR w wr l (.slice s n c)) : n = l.length := by
  obtain ⟨_, ⟨e, h0⟩ | ⟨g, cap, cur, e, _⟩⟩ := h.row
  · simp only [Value.slice.injEq] at e; omega
  · simp only [Value.slice.injEq] at e; exact e.2.1
set_option maxHeartbeats 8000000 in
theorem implSelect (d : Nat) (kk : Int) (items : List It) (parts : List Vec) (names cls levels : List ByteArray) (code env : Int) (ai ap an ac al xi : Option Addr) (ci cp cn cc cl xc lo hi B : Nat) (idx : List Nat) (w : World) (hI : ItemsAt lo hi w ai items) (hP : VecsAt lo hi w d ap parts) (hN : TextsAt lo hi w an names) (hC : TextsAt lo hi w ac cls) (hL : TextsAt lo hi w al levels) (hhi : hi ≤ w.heap.size)
    (li : items.length ≤ 1048576) (lp : parts.length ≤ 1048576) (ln : names.length ≤ 1048576) (lc : cls.length ≤ 1048576) (ll : levels.length ≤ 1048576) (hsp : ∀ p ∈ parts, Small d p) (hs : IntsAt B w xi idx.length (ixF idx)) (hB : B ≤ w.heap.size) (hn : idx.length ≤ 1048576)
    (hi1 : items.length ≠ 0 → ∀ i, i < idx.length → idx.getD i 0 < items.length) (hi2 : parts.length ≠ 0 → ∀ i, i < idx.length → idx.getD i 0 < parts.length) (hi3 : names.length ≠ 0 → ∀ i, i < idx.length → idx.getD i 0 < names.length) :
    Calls Tryz.prog 52 #[.agg #[.int .i64 kk, .slice ai items.length ci, .slice ap parts.length cp, .slice an names.length cn, .slice ac cls.length cc, .slice al levels.length cl, .int .i64 code, .int .i64 env], .slice xi idx.length xc] w (ResV (d + 1) (selV kk items parts names cls levels idx) w) := by
  have CW := Lib.hid (fun (W : World) (hb : Below w.heap.size w W) => implWithout d kk items parts names cls levels code env ai ap an ac al ci cp cn cc cl lo hi W (hC.below hb hhi) (hL.below hb hhi) (Nat.le_trans hhi hb.size) lc ll)
  have CI := Lib.hid (fun (W : World) (hb : Below w.heap.size w W) => implSelIt items idx ai xi ci xc lo hi B W (hI.below hb hhi) (hs.below (hb.mono hB)) (Nat.le_trans hB hb.size) (Nat.le_trans hhi hb.size) hn li hi1)
  have CV := Lib.hid (fun (W : World) (hb : Below w.heap.size w W) => implSelVec d parts idx ap xi cp xc lo hi B W (hP.below hb hhi) (hs.below (hb.mono hB)) (Nat.le_trans hB hb.size) (Nat.le_trans hhi hb.size) hn lp hi2)
  have CT := Lib.hid (fun (W : World) (hb : Below w.heap.size w W) => implSelTx names idx an xi cn xc lo hi B W (hN.below hb hhi) (hs.below (hb.mono hB)) (Nat.le_trans hB hb.size) (Nat.le_trans hhi hb.size) hn ln hi3)
  have CP := Lib.hid (fun (W : World) (sa : Option Addr) (c : Nat) (h : VecsAt 0 W.heap.size W d sa (pkL noV parts idx)) => (icsAll d).out (pkL noV parts idx) sa c 0 W.heap.size W h (Nat.le_refl _) (fun i hi => by
    by_cases h0 : parts.length = 0
    · rw [List.eq_nil_of_length_eq_zero h0] at hi; cases hi
    · rw [pkL_some h0] at hi ⊢
      have hi' : i < idx.length := by simpa using hi
      have e1 : (idx.map (fun i => parts.getD i noV)).getD i noV = parts.getD (idx.getD i 0) noV := by simp [List.getD_eq_getElem?_getD, hi']
      have hq := hi2 h0 i hi'
      rw [e1, List.getD_eq_getElem?_getD, List.getElem?_eq_getElem hq]
      exact hsp _ (List.getElem_mem hq)) (Nat.le_trans (pkL_len _ _ _) hn))
  have CK := Lib.hid (fun (W : World) (sa : Option Addr) (c lo' hi' : Nat) (h : TextsAt lo' hi' W sa (pkL ⟨#[]⟩ names idx)) => implKnownN (pkL ⟨#[]⟩ names idx) sa c lo' hi' W h (Nat.le_trans (pkL_len _ _ _) hn))
  have EV := Lib.hid (show selV kk items parts names cls levels idx = .mk kk (pkL noI items idx) (pkL noV parts idx) (clnN (pkL ⟨#[]⟩ names idx)) (kpC levels cls) levels 0 0 from rfl)
  obtain ⟨V, hV⟩ : ∃ V, selV kk items parts names cls levels idx = V := ⟨_, rfl⟩
  rw [hV] at EV ⊢
  obtain ⟨I, hI'⟩ : ∃ I, pkL noI items idx = I := ⟨_, rfl⟩
  obtain ⟨Q, hQ'⟩ : ∃ Q, pkL noV parts idx = Q := ⟨_, rfl⟩
  obtain ⟨T, hT'⟩ : ∃ T, pkL ⟨#[]⟩ names idx = T := ⟨_, rfl⟩
  obtain ⟨m, hm⟩ : ∃ m, idx.length = m := ⟨_, rfl⟩
  rw [hI'] at CI EV
  rw [hQ'] at CV CP EV
  rw [hT'] at CT CK EV
  rw [hm] at CI CV CT ⊢
  clear hV hI' hQ' hT' hm hI hP hN hC hL hsp hs hi1 hi2 hi3
  go_enter Tryz.func52, Tryz.ntmps52
  go_wp2_with fail
  obtain ⟨w1, hw1⟩ : ∃ W, (w.alloc (.cells #[.int .i64 kk, .slice ai items.length ci, .slice ap parts.length cp, .slice an names.length cn, .slice ac cls.length cc, .slice al levels.length cl, .int .i64 code, .int .i64 env] 31)).alloc (.cells #[.int .i64 0, .slice none 0 0, .slice none 0 0, .slice none 0 0, .slice none 0 0, .slice none 0 0, .int .i64 0, .int .i64 0] 31) = W := ⟨_, rfl⟩
  have hsz : (w.alloc (.cells #[.int .i64 kk, .slice ai items.length ci, .slice ap parts.length cp, .slice an names.length cn, .slice ac cls.length cc, .slice al levels.length cl, .int .i64 code, .int .i64 env] 31)).heap.size = w.heap.size + 1 := by simp
  have B1 := Lib.hid (show Below w.heap.size w w1 from hw1 ▸ (below1 w _).alloc (by simp) _)
  have KA := Lib.hid (show w1.heap[w.heap.size]? = some (.cells #[.int .i64 kk, .slice ai items.length ci, .slice ap parts.length cp, .slice an names.length cn, .slice ac cls.length cc, .slice al levels.length cl, .int .i64 code, .int .i64 env] 31 (0, 0)) from hw1 ▸ blk_old (blk_new w _ rfl))
  have KR := Lib.hid (show w1.heap[w.heap.size + 1]? = some (.cells #[.int .i64 0, .slice none 0 0, .slice none 0 0, .slice none 0 0, .slice none 0 0, .slice none 0 0, .int .i64 0, .int .i64 0] 31 (0, 0)) from hw1 ▸ hsz ▸ blk_new (w.alloc (.cells #[.int .i64 kk, .slice ai items.length ci, .slice ap parts.length cp, .slice an names.length cn, .slice ac cls.length cc, .slice al levels.length cl, .int .i64 code, .int .i64 env] 31)) (.cells #[.int .i64 0, .slice none 0 0, .slice none 0 0, .slice none 0 0, .slice none 0 0, .slice none 0 0, .int .i64 0, .int .i64 0] 31) rfl)
  rw [hw1]
  clear hw1 hsz
  with_reducible refine (CW.out _ B1.out).mono ?_
  rintro e w2 ⟨sc, nc, qc, sl, nl, ql, rfl, hu, b'⟩
  have KR1 := KR
  have B2 := Lib.hid (below_then B1.out b')
  have KA := Lib.hid (blk_below b' KA.out)
  have KR := Lib.hid (blk_below b' KR.out)
  have hrb := (Array.getElem?_eq_some_iff.1 KR.out).1
  have UF := Lib.hid (hu.free (b := w2.heap.size) (Nat.le_refl _))
  have hL1 := (Array.getElem?_eq_some_iff.1 KR1.out).1
  have SL := b'.size
  obtain ⟨L0, hL0⟩ : ∃ L0, w1.heap.size = L0 := ⟨_, rfl⟩
  rw [hL0] at hu SL hL1
  have U := Lib.hid hu
  clear hu b'
  obtain ⟨a0, a1, a2, a3, a4, a5, a6, a7⟩ := vec8 KA.out
  have hltA := (Array.getElem?_eq_some_iff.1 KA.out).1
  go_wp2_with fail
  clear a0 a1 a2 a3 a4 a5 a6 a7
  obtain ⟨w3, hw3⟩ : ∃ W, w2.alloc (.cells #[.int .i64 kk, .slice none 0 0, .slice none 0 0, .slice none 0 0, .slice sc nc qc, .slice sl nl ql, .int .i64 0, .int .i64 0] 31) = W := ⟨_, rfl⟩
  have KB := Lib.hid (show w3.heap[w2.heap.size]? = some (.cells #[.int .i64 kk, .slice none 0 0, .slice none 0 0, .slice none 0 0, .slice sc nc qc, .slice sl nl ql, .int .i64 0, .int .i64 0] 31 (0, 0)) from hw3 ▸ blk_new w2 _ rfl)
  have KA := Lib.hid (show w3.heap[w.heap.size]? = some (.cells #[.int .i64 kk, .slice ai items.length ci, .slice ap parts.length cp, .slice an names.length cn, .slice ac cls.length cc, .slice al levels.length cl, .int .i64 code, .int .i64 env] 31 (0, 0)) from hw3 ▸ blk_old KA.out)
  have KR := Lib.hid (show w3.heap[w.heap.size + 1]? = some (.cells #[.int .i64 0, .slice none 0 0, .slice none 0 0, .slice none 0 0, .slice none 0 0, .slice none 0 0, .int .i64 0, .int .i64 0] 31 (0, 0)) from hw3 ▸ blk_old KR.out)
  have BW := Lib.hid (show Below w.heap.size w w3 from hw3 ▸ B2.out.alloc B2.out.size _)
  have U := Lib.hid (show Und L0 w3 _ _ _ _ _ _ _ _ _ _ _ _ from hw3 ▸ U.out.below (below1 w2 _))
  have SL := Nat.le_trans SL (show w2.heap.size ≤ w3.heap.size from hw3 ▸ (by simp))
  rw [hw3]
  clear hw3
  obtain ⟨b, hb⟩ : ∃ b, w2.heap.size = b := ⟨_, rfl⟩
  rw [hb] at KB UF hrb ⊢
  clear hb B2 B1
  refine (CI.out _ BW.out).mono ?_
  rintro e w4 ⟨v4, rfl, hit⟩
  obtain ⟨s4, n4, c4, rfl⟩ := hit.form
  have hbw3 := (Array.getElem?_eq_some_iff.1 KB.out).1
  have U := Lib.hid (U.out.setI (row_lo hit.row SL) (moved_new hit.row) (fun g _ hg _ => hit.below.block g hg) hit.below.size)
  have UF := Lib.hid (show UFree b _ _ _ _ _ _ from ⟨ufree_of UF.out.1 (moved_new hit.row) hbw3, UF.out.2⟩)
  have BW := Lib.hid (below_then BW.out hit.below)
  have SL := Nat.le_trans SL hit.below.size
  have KA := Lib.hid (blk_below hit.below KA.out)
  have KB := Lib.hid (blk_below hit.below KB.out)
  have KR := Lib.hid (blk_below hit.below KR.out)
  have SB4 := hit.below.size
  clear hit hbw3
  obtain ⟨a0, a1, a2, a3, a4, a5, a6, a7⟩ := vec8 KA.out
  obtain ⟨k0, k1, k2, k3, k4, k5, k6, k7⟩ := vec8 KB.out
  obtain ⟨g0, g1, g2, g3, g4, g5, g6, g7⟩ := free8 KB.out
  have hbw := (Array.getElem?_eq_some_iff.1 KB.out).1
  go_upto_region 3 with (fail)
  clear a0 a1 a2 a3 a4 a5 a6 a7 k0 k1 k2 k3 k4 k5 k6 k7 g0 g1 g2 g3 g4 g5 g6 g7 hbw
  obtain ⟨w5, hw⟩ : ∃ W, w4.setCell ⟨b, 1, none⟩ (.slice s4 n4 c4) = W := ⟨_, rfl⟩
  have KB := Lib.hid (show w5.heap[b]? = some (.cells #[.int .i64 kk, .slice s4 n4 c4, .slice none 0 0, .slice none 0 0, .slice sc nc qc, .slice sl nl ql, .int .i64 0, .int .i64 0] 31 (0, 0)) from hw ▸ Joins.block_setCell KB.out _)
  have KA := Lib.hid (show w5.heap[w.heap.size]? = some (.cells #[.int .i64 kk, .slice ai items.length ci, .slice ap parts.length cp, .slice an names.length cn, .slice ac cls.length cc, .slice al levels.length cl, .int .i64 code, .int .i64 env] 31 (0, 0)) from hw ▸ (Below.heap_setCell _ _ _ _ (show w.heap.size ≠ b by omega)).trans KA.out)
  have KR := Lib.hid (show w5.heap[w.heap.size + 1]? = some (.cells #[.int .i64 0, .slice none 0 0, .slice none 0 0, .slice none 0 0, .slice none 0 0, .slice none 0 0, .int .i64 0, .int .i64 0] 31 (0, 0)) from hw ▸ (Below.heap_setCell _ _ _ _ (show w.heap.size + 1 ≠ b by omega)).trans KR.out)
  have BW := Lib.hid (show Below w.heap.size w w5 from hw ▸ BW.out.setCell (p := ⟨b, 1, none⟩) (show w.heap.size ≤ b by omega) _)
  have U := Lib.hid (show Und L0 w5 _ _ _ _ _ _ _ _ _ _ _ _ from hw ▸ U.out.put2 UF.out)
  have SL := Nat.le_trans SL (show w4.heap.size ≤ w5.heap.size from hw ▸ (by simp))
  rw [hw]
  clear hw
  obtain ⟨a0, a1, a2, a3, a4, a5, a6, a7⟩ := vec8 KA.out
  go_wp2_with fail
  refine (CV.out _ BW.out).mono ?_
  rintro e w6 ⟨s6, c6, rfl, hvs, b'⟩
  have BV := Lib.hid (below_then BW.out b')
  have SL := Nat.le_trans SL b'.size
  have KA := Lib.hid (blk_below b' KA.out)
  have KB := Lib.hid (blk_below b' KB.out)
  have KR := Lib.hid (blk_below b' KR.out)
  have SB6 := b'.size
  have U := Lib.hid (U.out.below b')
  have HV := Lib.hid hvs
  clear hvs b' a0 a1 a2 a3 a4 a5 a6 a7
  go_wp2_with fail
  refine (CP.out _ _ _ HV.out).mono ?_
  rintro e w7 ⟨v7, F, rfl, hop, hnd, hrg, b', xs, hxs⟩
  obtain ⟨X, hrx, hxn, hxf, hxo⟩ := hop.rowX hnd (row_lo hxs SL)
  obtain ⟨s7, n7, c7, rfl⟩ : ∃ s n c, v7 = .slice s n c := by
    obtain ⟨_, ⟨e, _⟩ | ⟨g, cap, cur, e, _⟩⟩ := hxs
    · exact ⟨_, _, _, e⟩
    · exact ⟨_, _, _, e⟩
  have hbw6 := (Array.getElem?_eq_some_iff.1 KB.out).1
  have U := Lib.hid (U.out.setP hrx (moved_new hxs) (fun g _ hg _ => b'.block g hg) b'.size hxn (fun g hg => ⟨.inr (hrg g (hxf g hg)).1, (hrg g (hxf g hg)).2⟩) SL hxo)
  have UF := Lib.hid (show UFree b _ _ _ _ _ X from ⟨UF.out.1, ufree_of UF.out.2.1 (moved_new hxs) hbw6, UF.out.2.2.1, UF.out.2.2.2.1, UF.out.2.2.2.2.1, fun e => by have := (hrg b (hxf b e)).1; omega⟩)
  have BW := Lib.hid (below_then BV.out b')
  have SL := Nat.le_trans SL b'.size
  have KA := Lib.hid (blk_below b' KA.out)
  have KB := Lib.hid (blk_below b' KB.out)
  have KR := Lib.hid (blk_below b' KR.out)
  have SB7 := b'.size
  clear hop hnd hrg b' hxs hrx hxn hxf hxo hbw6 HV
  obtain ⟨a0, a1, a2, a3, a4, a5, a6, a7⟩ := vec8 KA.out
  obtain ⟨k0, k1, k2, k3, k4, k5, k6, k7⟩ := vec8 KB.out
  obtain ⟨g0, g1, g2, g3, g4, g5, g6, g7⟩ := free8 KB.out
  have hbw := (Array.getElem?_eq_some_iff.1 KB.out).1
  go_upto_region 4 with (fail)
  clear a0 a1 a2 a3 a4 a5 a6 a7 k0 k1 k2 k3 k4 k5 k6 k7 g0 g1 g2 g3 g4 g5 g6 g7 hbw
  obtain ⟨w8, hw⟩ : ∃ W, w7.setCell ⟨b, 2, none⟩ (.slice s7 n7 c7) = W := ⟨_, rfl⟩
  have KB := Lib.hid (show w8.heap[b]? = some (.cells #[.int .i64 kk, .slice s4 n4 c4, .slice s7 n7 c7, .slice none 0 0, .slice sc nc qc, .slice sl nl ql, .int .i64 0, .int .i64 0] 31 (0, 0)) from hw ▸ Joins.block_setCell KB.out _)
  have KA := Lib.hid (show w8.heap[w.heap.size]? = some (.cells #[.int .i64 kk, .slice ai items.length ci, .slice ap parts.length cp, .slice an names.length cn, .slice ac cls.length cc, .slice al levels.length cl, .int .i64 code, .int .i64 env] 31 (0, 0)) from hw ▸ (Below.heap_setCell _ _ _ _ (show w.heap.size ≠ b by omega)).trans KA.out)
  have KR := Lib.hid (show w8.heap[w.heap.size + 1]? = some (.cells #[.int .i64 0, .slice none 0 0, .slice none 0 0, .slice none 0 0, .slice none 0 0, .slice none 0 0, .int .i64 0, .int .i64 0] 31 (0, 0)) from hw ▸ (Below.heap_setCell _ _ _ _ (show w.heap.size + 1 ≠ b by omega)).trans KR.out)
  have BW := Lib.hid (show Below w.heap.size w w8 from hw ▸ BW.out.setCell (p := ⟨b, 2, none⟩) (show w.heap.size ≤ b by omega) _)
  have U := Lib.hid (show Und L0 w8 _ _ _ _ _ _ _ _ _ _ _ _ from hw ▸ U.out.put2 UF.out)
  have SL := Nat.le_trans SL (show w7.heap.size ≤ w8.heap.size from hw ▸ (by simp))
  rw [hw]
  clear hw
  obtain ⟨a0, a1, a2, a3, a4, a5, a6, a7⟩ := vec8 KA.out
  go_wp2_with fail
  refine (CT.out _ BW.out).mono ?_
  rintro e w9 ⟨v9, rfl, htx⟩
  obtain ⟨s9, n9, c9, rfl⟩ := htx.form
  obtain rfl := htx.slice
  have hbw8 := (Array.getElem?_eq_some_iff.1 KB.out).1
  have HT := Lib.hid htx
  have BX := Lib.hid BW.out
  have BW := Lib.hid (below_then BW.out htx.below)
  have SL9 := SL
  have SL := Nat.le_trans SL htx.below.size
  have KA := Lib.hid (blk_below htx.below KA.out)
  have KB := Lib.hid (blk_below htx.below KB.out)
  have KR := Lib.hid (blk_below htx.below KR.out)
  have SB9 := htx.below.size
  clear htx a0 a1 a2 a3 a4 a5 a6 a7
  go_wp2_with fail
  refine (CK.out _ _ _ _ _ HT.out.texts).mono ?_
  rintro e w10 ⟨hk, rfl⟩
  rcases hk with ⟨ek, rfl⟩ | ⟨ek, rfl⟩
  · have U := Lib.hid (U.out.setN (row_lo HT.out.row SL9) (moved_new HT.out.row) (fun g _ hg _ => HT.out.below.block g hg) HT.out.below.size)
    have UF := Lib.hid (show UFree b _ _ _ _ _ X from ⟨UF.out.1, UF.out.2.1, ufree_of UF.out.2.2.1 (moved_new HT.out.row) hbw8, UF.out.2.2.2⟩)
    rw [ek] at EV
    clear HT ek hbw8 BX
    obtain ⟨a0, a1, a2, a3, a4, a5, a6, a7⟩ := vec8 KA.out
    obtain ⟨k0, k1, k2, k3, k4, k5, k6, k7⟩ := vec8 KB.out
    obtain ⟨g0, g1, g2, g3, g4, g5, g6, g7⟩ := free8 KB.out
    have hbw := (Array.getElem?_eq_some_iff.1 KB.out).1
    go_upto_region 5 with (fail)
    clear a0 a1 a2 a3 a4 a5 a6 a7 k0 k1 k2 k3 k4 k5 k6 k7 g0 g1 g2 g3 g4 g5 g6 g7 hbw
    obtain ⟨w11, hw⟩ : ∃ W, w9.setCell ⟨b, 3, none⟩ (.slice s9 T.length c9) = W := ⟨_, rfl⟩
    have KB := Lib.hid (show w11.heap[b]? = some (.cells #[.int .i64 kk, .slice s4 n4 c4, .slice s7 n7 c7, .slice s9 T.length c9, .slice sc nc qc, .slice sl nl ql, .int .i64 0, .int .i64 0] 31 (0, 0)) from hw ▸ Joins.block_setCell KB.out _)
    have KA := Lib.hid (show w11.heap[w.heap.size]? = some (.cells #[.int .i64 kk, .slice ai items.length ci, .slice ap parts.length cp, .slice an names.length cn, .slice ac cls.length cc, .slice al levels.length cl, .int .i64 code, .int .i64 env] 31 (0, 0)) from hw ▸ (Below.heap_setCell _ _ _ _ (show w.heap.size ≠ b by omega)).trans KA.out)
    have KR := Lib.hid (show w11.heap[w.heap.size + 1]? = some (.cells #[.int .i64 0, .slice none 0 0, .slice none 0 0, .slice none 0 0, .slice none 0 0, .slice none 0 0, .int .i64 0, .int .i64 0] 31 (0, 0)) from hw ▸ (Below.heap_setCell _ _ _ _ (show w.heap.size + 1 ≠ b by omega)).trans KR.out)
    have BW := Lib.hid (show Below w.heap.size w w11 from hw ▸ BW.out.setCell (p := ⟨b, 3, none⟩) (show w.heap.size ≤ b by omega) _)
    have U := Lib.hid (show Und L0 w11 _ _ _ _ _ _ _ _ _ _ _ _ from hw ▸ U.out.put2 UF.out)
    have SL := Nat.le_trans SL (show w9.heap.size ≤ w11.heap.size from hw ▸ (by simp))
    rw [hw]
    clear hw
    have O := Lib.hid (U.out.own kk)
    rw [← EV.out] at O
    clear EV
    obtain ⟨k0, k1, k2, k3, k4, k5, k6, k7⟩ := vec8 KB.out
    obtain ⟨z0, z1, z2, z3, z4, z5, z6, z7⟩ := vec8 KR.out
    obtain ⟨f0, f1, f2, f3, f4, f5, f6, f7⟩ := free8 KR.out
    go_wp2
    exact vec_end rfl rfl rfl KR.out ⟨_, rfl, (O.out.put8 hL1 _ _ _ _ _ _ _ _).wide (by omega) (by rw [put8_size]; exact Nat.le_refl _), put8_below BW.out (Nat.le_succ _)⟩
  · rw [ek] at EV
    have U := Lib.hid (U.out.below HT.out.below)
    clear HT ek hbw8 BX
    obtain ⟨a0, a1, a2, a3, a4, a5, a6, a7⟩ := vec8 KA.out
    obtain ⟨k0, k1, k2, k3, k4, k5, k6, k7⟩ := vec8 KB.out
    obtain ⟨g0, g1, g2, g3, g4, g5, g6, g7⟩ := free8 KB.out
    have hbw := (Array.getElem?_eq_some_iff.1 KB.out).1
    go_upto_region 5 with (fail)
    clear a0 a1 a2 a3 a4 a5 a6 a7 k0 k1 k2 k3 k4 k5 k6 k7 g0 g1 g2 g3 g4 g5 g6 g7 hbw
    obtain ⟨w11, hw⟩ : ∃ W, w9.setCell ⟨b, 3, none⟩ (.slice none 0 0) = W := ⟨_, rfl⟩
    have KB := Lib.hid (show w11.heap[b]? = some (.cells #[.int .i64 kk, .slice s4 n4 c4, .slice s7 n7 c7, .slice none 0 0, .slice sc nc qc, .slice sl nl ql, .int .i64 0, .int .i64 0] 31 (0, 0)) from hw ▸ Joins.block_setCell KB.out _)
    have KA := Lib.hid (show w11.heap[w.heap.size]? = some (.cells #[.int .i64 kk, .slice ai items.length ci, .slice ap parts.length cp, .slice an names.length cn, .slice ac cls.length cc, .slice al levels.length cl, .int .i64 code, .int .i64 env] 31 (0, 0)) from hw ▸ (Below.heap_setCell _ _ _ _ (show w.heap.size ≠ b by omega)).trans KA.out)
    have KR := Lib.hid (show w11.heap[w.heap.size + 1]? = some (.cells #[.int .i64 0, .slice none 0 0, .slice none 0 0, .slice none 0 0, .slice none 0 0, .slice none 0 0, .int .i64 0, .int .i64 0] 31 (0, 0)) from hw ▸ (Below.heap_setCell _ _ _ _ (show w.heap.size + 1 ≠ b by omega)).trans KR.out)
    have BW := Lib.hid (show Below w.heap.size w w11 from hw ▸ BW.out.setCell (p := ⟨b, 3, none⟩) (show w.heap.size ≤ b by omega) _)
    have U := Lib.hid (show Und L0 w11 _ _ _ _ _ _ _ _ _ _ _ _ from hw ▸ U.out.put2 UF.out)
    have SL := Nat.le_trans SL (show w9.heap.size ≤ w11.heap.size from hw ▸ (by simp))
    rw [hw]
    clear hw
    have O := Lib.hid (U.out.own kk)
    rw [← EV.out] at O
    clear EV
    obtain ⟨k0, k1, k2, k3, k4, k5, k6, k7⟩ := vec8 KB.out
    obtain ⟨z0, z1, z2, z3, z4, z5, z6, z7⟩ := vec8 KR.out
    obtain ⟨f0, f1, f2, f3, f4, f5, f6, f7⟩ := free8 KR.out
    go_wp2
    exact vec_end rfl rfl rfl KR.out ⟨_, rfl, (O.out.put8 hL1 _ _ _ _ _ _ _ _).wide (by omega) (by rw [put8_size]; exact Nat.le_refl _), put8_below BW.out (Nat.le_succ _)⟩
end Go.Proofs.YtpekdmocgjjhnaaGreat

/- DuplicatedIn on both sides. -/
namespace Go.Proofs.YtpekdmocgjjhnaaGreat
open Go.RowKit
set_option maxRecDepth 100000
set_option linter.unusedVariables false

noncomputable def dupZ (l : List It) (i : Nat) : Int := match bB (DupAt l i) with | true => 1 | false => 0
/-- Which elements are duplicates. -/
noncomputable def dupV (v : Vec) : Vec := match bB (atmS v = ⟨#[]⟩) with | true => mkN 1 (itF (fun i => logI (dupZ (itemsV v) i)) (itemsV v).length) [] | false => noV
end Go.Proofs.YtpekdmocgjjhnaaGreat

/- UniqueOf: data, the program. -/
namespace Go.Proofs.YtpekdmocgjjhnaaGreat
open Go.RowKit
set_option maxRecDepth 100000
set_option linter.unusedVariables false

/-- Which elements have no equal one ahead. -/
noncomputable def uqP (l : List It) (i : Nat) : Bool := !(bB (DupAt l i))
noncomputable def uqI (l : List It) : List Nat := whN (uqP l) l.length
noncomputable def uqV (v : Vec) : Vec := match bB (atmS v = ⟨#[]⟩), v with
  | true, .mk kk items _ _ cls levels _ _ => .mk kk (pkL noI items (uqI items)) [] [] (kpC levels cls) levels 0 0
  | false, _ => noV
/-- A vector of the zero value, at any depth. -/
theorem own_zeroD (d lo hi : Nat) (w : World) : Own (d + 1) noV (.agg #[.int .i64 0, .slice none 0 0, .slice none 0 0, .slice none 0 0, .slice none 0 0, .slice none 0 0, .int .i64 0, .int .i64 0]) lo hi w := by
  refine ⟨[], ?_, List.nodup_nil, (fun _ h => by cases h)⟩
  show OwnVec w (d + 1) (.mk 0 [] [] [] [] [] 0 0) _ []
  unfold OwnVec
  exact ⟨none, 0, none, 0, none, 0, none, 0, none, 0, [], [], [], [], [], rfl, rfl, ⟨Nat.le_refl _, Nat.le_refl _, Nat.le_refl _, Nat.le_refl _, Nat.le_refl _⟩, .inl ⟨rfl, rfl⟩, .inl ⟨rfl, rfl⟩, .inl ⟨rfl, rfl⟩, .inl ⟨rfl, rfl⟩, .inl ⟨rfl, rfl⟩⟩
theorem zeroSD (d : Nat) (s : ByteArray) (w w' : World) (hb : Below w.heap.size w w') : ResVS (d + 1) noV s w (.returned (.tuple #[.agg #[.int .i64 0, .slice none 0 0, .slice none 0 0, .slice none 0 0, .slice none 0 0, .slice none 0 0, .int .i64 0, .int .i64 0], .string s])) w' := ⟨_, rfl, own_zeroD _ _ _ _, hb⟩
theorem IntsAt.congr {B : Nat} {w : World} {a : Option Addr} {n : Nat} {f g : Nat → Int} (h : IntsAt B w a n f) (e : ∀ i, i < n → f i = g i) : IntsAt B w a n g := fun i hi => by rw [← e i hi]; exact h i hi
end Go.Proofs.YtpekdmocgjjhnaaGreat

/- ElementOf as data. -/
namespace Go.Proofs.YtpekdmocgjjhnaaGreat
open Go.RowKit
set_option maxRecDepth 100000
set_option linter.unusedVariables false

def namV (v : Vec) : List ByteArray := match v with | .mk _ _ _ names _ _ _ _ => names
/-- What a subscript selects in a vector of elements. -/
noncomputable def rvZ (v s : Vec) : List Int := bif bB (ValidV v ∧ ¬ kindV v = 5) then rsZ (lengthV v : Int) (namV v) s else []
noncomputable def rvS (v s : Vec) : ByteArray := bif bB (ValidV v) then (bif bB (kindV v = 5) then nelB else rsS (lengthV v : Int) (namV v) s) else badB
theorem rv_bad {v s : Vec} (h : ¬ ValidV v) : rvZ v s = [] ∧ rvS v s = badB := by unfold rvZ rvS; rw [bB_no h, bB_no (fun e => h e.1)]; exact ⟨rfl, rfl⟩
theorem rv_fun {v s : Vec} (h : ValidV v) (h5 : kindV v = 5) : rvZ v s = [] ∧ rvS v s = nelB := by unfold rvZ rvS; rw [bB_yes h, bB_yes h5, bB_no (fun e => e.2 h5)]; exact ⟨rfl, rfl⟩
theorem rv_yes {v s : Vec} (h : ValidV v) (h5 : ¬ kindV v = 5) : rvZ v s = rsZ (lengthV v : Int) (namV v) s ∧ rvS v s = rsS (lengthV v : Int) (namV v) s := by unfold rvZ rvS; rw [bB_yes h, bB_no h5, bB_yes ⟨h, h5⟩]; exact ⟨rfl, rfl⟩
/-- A problem leaves no positions; no problem: a vector of elements, and a valid subscript. -/
theorem rv_ok {v s : Vec} (h : rvS v s = ⟨#[]⟩) : ValidV v ∧ ¬ kindV v = 5 := by
  by_cases hv : ValidV v
  · by_cases h5 : kindV v = 5
    · rw [(rv_fun (s := s) hv h5).2] at h; exact absurd h (by decide)
    · exact ⟨hv, h5⟩
  · rw [(rv_bad (s := s) hv).2] at h; exact absurd h (by decide)
/-- Exactly one position, which is one of the vector's. -/
def OneP (v s : Vec) : Prop := lengthV s = 1 ∧ (rvZ v s).length = 1 ∧ 1 ≤ (rvZ v s).getD 0 0 ∧ (rvZ v s).getD 0 0 ≤ (lengthV v : Int)
/-- A vector's element at an index, without its name. -/
noncomputable def elmV (v : Vec) (i : Nat) : Vec := match v with
  | .mk kk items parts names cls levels _ _ => bif bB (kk = 4) then parts.getD i noV else .mk kk (pkL noI items [i]) (pkL noV parts [i]) [] (kpC levels cls) levels 0 0
noncomputable def elS (v s : Vec) : ByteArray := bif bB (rvS v s = ⟨#[]⟩) then (bif bB (OneP v s) then ⟨#[]⟩ else oobB) else rvS v s
noncomputable def elV (v s : Vec) : Vec := bif bB (rvS v s = ⟨#[]⟩ ∧ OneP v s) then elmV v ((rvZ v s).getD 0 0 - 1).toNat else noV
theorem el_bad {v s : Vec} (h : ¬ rvS v s = ⟨#[]⟩) : elV v s = noV ∧ elS v s = rvS v s := by unfold elV elS; rw [bB_no h, bB_no (fun e => h e.1)]; exact ⟨rfl, rfl⟩
theorem el_many {v s : Vec} (h : rvS v s = ⟨#[]⟩) (h1 : ¬ OneP v s) : elV v s = noV ∧ elS v s = oobB := by unfold elV elS; rw [bB_yes h, bB_no h1, bB_no (fun e => h1 e.2)]; exact ⟨rfl, rfl⟩
theorem el_one {v s : Vec} (h : rvS v s = ⟨#[]⟩) (h1 : OneP v s) : elV v s = elmV v ((rvZ v s).getD 0 0 - 1).toNat ∧ elS v s = ⟨#[]⟩ := by unfold elV elS; rw [bB_yes h, bB_yes h1, bB_yes ⟨h, h1⟩]; exact ⟨rfl, rfl⟩
theorem elm_list {items : List It} {parts : List Vec} {names cls levels : List ByteArray} {code env : Int} {i : Nat} : elmV (.mk 4 items parts names cls levels code env) i = parts.getD i noV := by show (bif bB ((4 : Int) = 4) then parts.getD i noV else _) = _; rw [bB_yes rfl]; rfl
theorem elm_atom {kk : Int} (h : ¬ kk = 4) {items : List It} {parts : List Vec} {names cls levels : List ByteArray} {code env : Int} {i : Nat} : elmV (.mk kk items parts names cls levels code env) i = .mk kk (pkL noI items [i]) (pkL noV parts [i]) [] (kpC levels cls) levels 0 0 := by show (bif bB (kk = 4) then parts.getD i noV else _) = _; rw [bB_no h]; rfl
end Go.Proofs.YtpekdmocgjjhnaaGreat

/- FieldOf as data. -/
namespace Go.Proofs.YtpekdmocgjjhnaaGreat
open Go.RowKit
set_option maxRecDepth 100000
set_option linter.unusedVariables false

def FldK (v : Vec) : Prop := kindV v = 0 ∨ kindV v = 4
/-- The part at a place, or NULL. -/
def partAt (parts : List Vec) (z : Int) : Vec := if z < 0 then noV else parts.getD z.toNat noV
noncomputable def fldV (s : ByteArray) (v : Vec) : Vec := bif bB (ValidV v ∧ FldK v) then (match v with | .mk _ _ parts names _ _ _ _ => partAt parts (fldZ s (fun i => names.getD i ⟨#[]⟩) names.length)) else noV
noncomputable def fldS (v : Vec) : ByteArray := bif bB (ValidV v) then (bif bB (FldK v) then ⟨#[]⟩ else nltB) else badB
theorem texts_strs {lo hi : Nat} {w : World} {a : Option Addr} {l : List ByteArray} (h : TextsAt lo hi w a l) : StrsAt hi w a l.length (fun i => l.getD i ⟨#[]⟩) := fun i hi' => by
  obtain ⟨b, off, e, _, h1, h2⟩ := h i (l.getD i ⟨#[]⟩) (by simp [List.getD_eq_getElem?_getD, hi'])
  exact ⟨b, off, e, h1, h2⟩
end Go.Proofs.YtpekdmocgjjhnaaGreat

/- elementAt of a list. -/
namespace Go.Proofs.YtpekdmocgjjhnaaGreat
open Go.RowKit
set_option maxRecDepth 100000
set_option linter.unusedVariables false

set_option maxHeartbeats 4000000 in
theorem implElemL (d : Nat) (items : List It) (parts : List Vec) (names cls levels : List ByteArray) (code env : Int) (ai ap an ac al : Option Addr) (ci cp cn cc cl lo hi : Nat) (w : World) (hP : VecsAt lo hi w d ap parts) (hhi : hi ≤ w.heap.size) (j : Nat) (hj : j < parts.length) (hsm : Small d (parts.getD j noV)) (lp : parts.length ≤ 1048576) :
    Calls Tryz.prog 42 #[.agg #[.int .i64 4, .slice ai items.length ci, .slice ap parts.length cp, .slice an names.length cn, .slice ac cls.length cc, .slice al levels.length cl, .int .i64 code, .int .i64 env], .int .i64 (j : Int)] w (ResV d (parts.getD j noV) w) := by
  have AP := Lib.hid (fun (W : World) (hb : Below w.heap.size w W) => (hP.below hb hhi).at_ hj)
  have CP := Lib.hid (fun (W : World) (x : Value) (hb : Below w.heap.size w W) (hv : VecAt lo hi W d (parts.getD j noV) x) => (icvAll d).out _ x lo hi W hv (Nat.le_trans hhi hb.size) hsm)
  obtain ⟨V, hV⟩ : ∃ V, parts.getD j noV = V := ⟨_, rfl⟩
  rw [hV] at AP CP ⊢
  clear hV hP hhi hsm
  go_enter Tryz.func42, Tryz.ntmps42
  go_upto_region 2 with (fail)
  obtain ⟨w1, hw1⟩ : ∃ W, (w.alloc (.cells #[.int .i64 4, .slice ai items.length ci, .slice ap parts.length cp, .slice an names.length cn, .slice ac cls.length cc, .slice al levels.length cl, .int .i64 code, .int .i64 env] 31)).alloc (.cells #[.int .i64 0, .slice none 0 0, .slice none 0 0, .slice none 0 0, .slice none 0 0, .slice none 0 0, .int .i64 0, .int .i64 0] 31) = W := ⟨_, rfl⟩
  have hsz : (w.alloc (.cells #[.int .i64 4, .slice ai items.length ci, .slice ap parts.length cp, .slice an names.length cn, .slice ac cls.length cc, .slice al levels.length cl, .int .i64 code, .int .i64 env] 31)).heap.size = w.heap.size + 1 := by simp
  have B1 := Lib.hid (show Below w.heap.size w w1 from hw1 ▸ (below1 w _).alloc (by simp) _)
  have KA := Lib.hid (show w1.heap[w.heap.size]? = some (.cells #[.int .i64 4, .slice ai items.length ci, .slice ap parts.length cp, .slice an names.length cn, .slice ac cls.length cc, .slice al levels.length cl, .int .i64 code, .int .i64 env] 31 (0, 0)) from hw1 ▸ blk_old (blk_new w _ rfl))
  have KR := Lib.hid (show w1.heap[w.heap.size + 1]? = some (.cells #[.int .i64 0, .slice none 0 0, .slice none 0 0, .slice none 0 0, .slice none 0 0, .slice none 0 0, .int .i64 0, .int .i64 0] 31 (0, 0)) from hw1 ▸ hsz ▸ blk_new (w.alloc (.cells #[.int .i64 4, .slice ai items.length ci, .slice ap parts.length cp, .slice an names.length cn, .slice ac cls.length cc, .slice al levels.length cl, .int .i64 code, .int .i64 env] 31)) (.cells #[.int .i64 0, .slice none 0 0, .slice none 0 0, .slice none 0 0, .slice none 0 0, .slice none 0 0, .int .i64 0, .int .i64 0] 31) rfl)
  rw [hw1]
  clear hw1 hsz
  obtain ⟨k0, k1, k2, k3, k4, k5, k6, k7⟩ := vec8 KA.out
  obtain ⟨b, off, c0, c1, c2, c3, c4, c5, c6, c7, rfl, hbh, hvv, e0, e1, e2, e3, e4, e5, e6, e7⟩ := AP.out w1 B1.out
  have HV := Lib.hid hvv
  clear hvv
  go_wp2_with fail
  refine (CP.out _ _ B1.out HV.out).mono ?_
  rintro e w2 ⟨y, rfl, ho, hb⟩
  obtain ⟨yk, ya1, yn1, ym1, ya2, yn2, ym2, ya3, yn3, ym3, ya4, yn4, ym4, ya5, yn5, ym5, yc, ye, rfl⟩ := ho.agg
  have hr1 := (Array.getElem?_eq_some_iff.1 KR.out).1
  have B2 := Lib.hid (below_then B1.out hb)
  have KR := Lib.hid (blk_below hb KR.out)
  have HO := Lib.hid ho
  clear ho hb e0 e1 e2 e3 e4 e5 e6 e7 k0 k1 k2 k3 k4 k5 k6 k7
  obtain ⟨z0, z1, z2, z3, z4, z5, z6, z7⟩ := vec8 KR.out
  obtain ⟨f0, f1, f2, f3, f4, f5, f6, f7⟩ := free8 KR.out
  go_wp2
  exact vec_end rfl rfl rfl KR.out ⟨_, rfl, (HO.out.put8 (by omega) _ _ _ _ _ _ _ _).wide (by omega) (by rw [put8_size]; exact Nat.le_refl _), put8_below B2.out (Nat.le_succ _)⟩
end Go.Proofs.YtpekdmocgjjhnaaGreat

/- Ints reversed in place. -/
namespace Go.Proofs.YtpekdmocgjjhnaaGreat
open Go.RowKit
set_option maxRecDepth 100000
set_option linter.unusedVariables false

/-- The ints of a row of its own: its block. -/
theorem IntZ.parts {w0 w : World} {l : List Int} {v : Value} (h : IntZ w0 w l v) (hl : l.length ≠ 0) : ∃ g c, v = .slice (some ⟨g, 0, none⟩) l.length c ∧ w0.heap.size ≤ g ∧ g < w.heap.size := by
  obtain ⟨_, ⟨_, h0⟩ | ⟨g, cap, cur, e, hB, hg, _⟩⟩ := h.row
  · exact absurd h0 hl
  · exact ⟨g, cap, e, hB, (Array.getElem?_eq_some_iff.1 hg).1⟩
theorem intC_at {l : List Int} {k : Nat} (hk : k < l.length) : (intC l)[k]? = some (.int .i64 (l.getD k 0)) := by
  unfold intC
  simp [List.getD_eq_getElem?_getD, List.getElem?_map, List.getElem?_eq_getElem hk]
theorem IntZ.cell {w0 w : World} {l : List Int} {g n c k : Nat} (h : IntZ w0 w l (.slice (some ⟨g, 0, none⟩) n c)) (hk : k < l.length) : w.cell? ⟨g, k, none⟩ = some (.int .i64 (l.getD k 0)) ∧ w.frozen? ⟨g, k, none⟩ = false := by
  obtain ⟨_, ⟨e, _⟩ | ⟨g', cap, cur, e, hB, hg, hc, hm, hs, ht⟩⟩ := h.row
  · cases e
  · simp only [Value.slice.injEq, Option.some.injEq, Addr.mk.injEq, and_true] at e
    obtain ⟨rfl, _, _⟩ := e
    refine ⟨cellOf hg ?_, freeOf hg⟩
    rw [← Array.getElem?_toList, ← intC_at hk, ← ht, List.getElem?_take, if_pos (by omega)]
theorem IntZ.set {w0 w : World} {l : List Int} {g n c k : Nat} {z : Int} (h : IntZ w0 w l (.slice (some ⟨g, 0, none⟩) n c)) (hk : k < l.length) : IntZ w0 (w.setCell ⟨g, k, none⟩ (.int .i64 z)) (l.set k z) (.slice (some ⟨g, 0, none⟩) n c) := by
  obtain ⟨h1, ⟨e, _⟩ | ⟨g', cap, cur, e, hB, hg, hc, hm, hs, ht⟩⟩ := h.row
  · cases e
  · simp only [Value.slice.injEq, Option.some.injEq, Addr.mk.injEq, and_true] at e
    obtain ⟨rfl, rfl, rfl⟩ := e
    have e1 : (l.set k z).length = l.length := by simp
    refine ⟨⟨by rw [e1]; unfold intC; simp, .inr ⟨g, c, cur.setIfInBounds k (.int .i64 z), by rw [e1], hB, Joins.block_setCell hg _, by rw [e1]; exact hc, hm, by simpa using hs, ?_⟩⟩, h.below.setCell (p := ⟨g, k, none⟩) hB _⟩
    rw [e1, Array.toList_setIfInBounds, List.take_set, ht]
    unfold intC
    rw [List.map_set]
theorem IntZ.drew {w0 w : World} {l : List Int} {v : Value} (h : IntZ w0 w l v) : IntZ w0 w.drew l v := h.keep (below_drew' (Below.refl _ _))
/-- The first i and the last i of n, exchanged. -/
def rvF (f : Nat → Int) (n i p : Nat) : Int := if p < i ∨ n ≤ p + i then f (n - 1 - p) else f p
def rvL (f : Nat → Int) (n i : Nat) : List Int := (List.range n).map (rvF f n i)
end Go.Proofs.YtpekdmocgjjhnaaGreat

/- Ints of a row: the first at which a function's value holds, those deleted at which it holds (slices.IndexFunc, DeleteFunc), slices.Contains of ints. -/
namespace Go.Proofs.YtpekdmocgjjhnaaGreat
open Go.RowKit Go.Shelf
set_option maxRecDepth 100000
set_option linter.unusedVariables false

/-- A function's value that says p, whatever is new. -/
structure PredZ (fid : FuncId) (cap : Array Value) (p : Int → Bool) (w0 : World) : Prop where
  out : ∀ (z : Int) (W : World), Below w0.heap.size w0 W → -9223372036854775808 < z → z ≤ 9223372036854775807 → Calls Tryz.prog fid (#[.int .i64 z] ++ cap) W fun e w' => e = .returned (.bool (p z)) ∧ Below W.heap.size W w'
def FstZ (p : Int → Bool) (f : Nat → Int) (n : Nat) (r : Int) : Prop := (r = -1 ∧ ∀ i, i < n → p (f i) = false) ∨ ∃ j : Nat, r = j ∧ j < n ∧ p (f j) = true ∧ ∀ i, i < j → p (f i) = false
set_option maxHeartbeats 2000000 in
theorem implIndexFn (fid : FuncId) (cap : Array Value) (p : Int → Bool) (w0 : World) (eg : ∀ args w, (callFunc fid args).run Tryz.prog w = .ok (.enter fid args) w) (hG : PredZ fid cap p w0) (a : Option Addr) (n c : Nat) (f : Nat → Int) (B : Nat) (w : World) (hs : IntsAt B w a n f) (hB : B ≤ w.heap.size) (hw : Below w0.heap.size w0 w) (hn : n ≤ 1048576)
    (hf : ∀ i, i < n → -9223372036854775808 < f i ∧ f i ≤ 9223372036854775807) :
    Calls Tryz.prog 116 #[.slice a n c, .func (.func fid) #[] cap] w fun e w' => ∃ r, FstZ p f n r ∧ e = .returned (.int .i64 r) ∧ Below w.heap.size w w' := by
  have SA := Lib.hid hs
  have HG := Lib.hid (fun k W (hk : k < n) hb => hG.out (f k) W (below_then hw hb) (hf k hk).1 (hf k hk).2)
  clear hs hG hf
  go_enter Tryz.func116, Tryz.ntmps116
  go_wp2
  go_loopw [8] (fun i wr => ∃ k : Nat, k ≤ n ∧ i = .int .i64 k ∧ (∀ j, j < k → p (f j) = false) ∧ Below w.heap.size w wr) (fun i _ => n - (intOf i).toNat)
  case atStart => exact ⟨0, Nat.zero_le _, rfl, (fun _ h => absurd h (Nat.not_lt_zero _)), Below.refl _ _⟩
  case round =>
    obtain ⟨k, hk, rfl, hne, hb⟩ := hrel
    have NE := Lib.hid hne
    have BW := Lib.hid hb
    clear hne hb
    by_cases hlt : k < n
    · obtain ⟨b, off, rfl, hbB, hc⟩ := (SA.out.below (BW.out.mono hB)) k hlt
      have HC := Lib.hid (HG.out k wr hlt BW.out)
      cases hp : p (f k) with
      | true =>
        have X := Lib.hid (show FstZ p f n (k : Int) from .inr ⟨k, rfl, hlt, hp, NE.out⟩)
        rw [hp] at HC
        clear hp
        go_wp2_with (go_at_fn fid; refine HC.out.mono ?_; rintro e w2 ⟨rfl, b2⟩)
        have B2 := Lib.hid (below_then BW.out b2)
        go_ret
        exact ⟨_, X.out, rfl, B2.out⟩
      | false =>
        have N2 := Lib.hid (show ∀ j, j < k + 1 → p (f j) = false from fun j hj => by
          by_cases e : j = k
          · subst e; exact hp
          · exact NE.out j (by omega))
        rw [hp] at HC
        clear hp
        go_wp2_with (go_at_fn fid; refine HC.out.mono ?_; rintro e w2 ⟨rfl, b2⟩)
        have B2 := Lib.hid (below_then BW.out b2)
        go_roundw
        case rel => exact ⟨k + 1, by omega, by go_num, N2.out, B2.out⟩
        case measure => simp [intOf]; omega
    · obtain rfl : k = n := by omega
      have X := Lib.hid (show FstZ p f k (-1) from .inl ⟨rfl, NE.out⟩)
      go_wp2
      go_ret
      exact ⟨_, X.out, rfl, BW.out⟩
/-! What is kept while ints are deleted in place. -/
structure KeptZ (p : Int → Bool) (l : List Int) (j i : Nat) (M : List Int) : Prop where
  len : M.length = l.length
  low : M.take i = (l.take j).filter (fun z => !p z)
  high : ∀ q, j ≤ q → q < l.length → M.getD q 0 = l.getD q 0
  lt : i < j
theorem take_nextZ {l : List Int} {k : Nat} (h : k < l.length) : l.take (k + 1) = l.take k ++ [l.getD k 0] := by
  rw [List.take_add_one]; simp [List.getD_eq_getElem?_getD, h]
theorem KeptZ.start {p : Int → Bool} {l : List Int} {k : Nat} (hk : k < l.length) (h : ∀ i, i < k → p (l.getD i 0) = false) (hp : p (l.getD k 0) = true) : KeptZ p l (k + 1) k l := by
  refine ⟨rfl, ?_, fun _ _ _ => rfl, Nat.lt_succ_self _⟩
  rw [take_nextZ hk, List.filter_append]
  have e1 : [l.getD k 0].filter (fun z => !p z) = [] := by rw [List.filter_cons]; simp only [hp, Bool.not_true]; rfl
  rw [e1, List.append_nil]
  symm
  rw [List.filter_eq_self]
  intro z hz
  obtain ⟨i, hi, e⟩ := List.getElem_of_mem hz
  rw [List.length_take] at hi
  rw [List.getElem_take] at e
  have := h i (by omega)
  rw [List.getD_eq_getElem?_getD, List.getElem?_eq_getElem (by omega)] at this
  simp only [Option.getD_some] at this
  rw [← e, this]; rfl
theorem KeptZ.keep {p : Int → Bool} {l M : List Int} {j i : Nat} (h : KeptZ p l j i M) (hj : j < l.length) (hp : p (l.getD j 0) = false) : KeptZ p l (j + 1) (i + 1) (M.set i (l.getD j 0)) := by
  obtain ⟨h1, h2, h3, h4⟩ := h
  refine ⟨by rw [List.length_set]; exact h1, ?_, fun q hq hl => ?_, by omega⟩
  · have hi : i < M.length := by omega
    rw [take_nextZ (by rw [List.length_set]; exact hi), take_nextZ hj, List.filter_append, ← h2]
    have e1 : [l.getD j 0].filter (fun z => !p z) = [l.getD j 0] := by rw [List.filter_cons]; simp only [hp, Bool.not_false]; rfl
    rw [e1, List.take_set]
    have e2 : (M.take i).set i (l.getD j 0) = M.take i := List.set_eq_of_length_le (by rw [List.length_take]; omega)
    rw [e2]
    simp [List.getD_eq_getElem?_getD, hi]
  · have := h3 q (by omega) hl
    rw [← this]
    simp only [List.getD_eq_getElem?_getD]
    rw [List.getElem?_set_ne (by omega)]
theorem KeptZ.skip {p : Int → Bool} {l M : List Int} {j i : Nat} (h : KeptZ p l j i M) (hj : j < l.length) (hp : p (l.getD j 0) = true) : KeptZ p l (j + 1) i M := by
  obtain ⟨h1, h2, h3, h4⟩ := h
  refine ⟨h1, ?_, fun q hq hl => h3 q (by omega) hl, by omega⟩
  rw [take_nextZ hj, List.filter_append, ← h2]
  have e1 : [l.getD j 0].filter (fun z => !p z) = [] := by rw [List.filter_cons]; simp only [hp, Bool.not_true]; rfl
  rw [e1, List.append_nil]
theorem KeptZ.done {p : Int → Bool} {l M : List Int} {i : Nat} (h : KeptZ p l l.length i M) : M.take i = l.filter (fun z => !p z) := by
  have := h.low; rwa [List.take_length] at this
theorem IntZ.take {w0 w : World} {l : List Int} {g n c i : Nat} (h : IntZ w0 w l (.slice (some ⟨g, 0, none⟩) n c)) (hi : i ≤ l.length) : IntZ w0 w (l.take i) (.slice (some ⟨g, 0, none⟩) i c) := by
  obtain ⟨hl, ⟨e, _⟩ | ⟨g', cap, cur, e, hB, hg, hc, hm, hs, ht⟩⟩ := h.row
  · cases e
  · simp only [Value.slice.injEq, Option.some.injEq, Addr.mk.injEq, and_true] at e
    obtain ⟨rfl, rfl, rfl⟩ := e
    have e1 : (l.take i).length = i := by rw [List.length_take]; omega
    refine ⟨⟨by unfold intC; simp, .inr ⟨g, c, cur, by rw [e1], hB, hg, by rw [e1]; omega, hm, by simpa using hs, ?_⟩⟩, h.below⟩
    have e2 : intC (l.take i) = (intC l).take i := by unfold intC; rw [List.map_take]
    rw [e1, e2, ← ht, List.take_take, Nat.mul_one, Nat.mul_one, Nat.min_eq_left hi]
theorem IntZ.zeros {w0 : World} {g n c : Nat} : ∀ (m i : Nat) (w : World) (l : List Int), IntZ w0 w l (.slice (some ⟨g, 0, none⟩) n c) → i + m ≤ l.length → ∃ l', IntZ w0 (w.setCells g i (List.replicate m (.int .i64 0))) l' (.slice (some ⟨g, 0, none⟩) n c) ∧ l'.length = l.length ∧ l'.take i = l.take i
  | 0, i, w, l, h, _ => ⟨l, h, rfl, rfl⟩
  | m + 1, i, w, l, h, hl => by
    obtain ⟨l', h1, h2, h3⟩ := IntZ.zeros m (i + 1) _ _ (h.set (k := i) (z := 0) (by omega)) (by rw [List.length_set]; omega)
    refine ⟨l', h1, by rw [h2, List.length_set], ?_⟩
    have e : l'.take i = (l'.take (i + 1)).take i := by rw [List.take_take, Nat.min_eq_left (by omega)]
    rw [e, h3, List.take_take, Nat.min_eq_left (by omega), List.take_set]
    exact List.set_eq_of_length_le (by rw [List.length_take]; omega)
theorem IntZ.cap {w0 w : World} {l : List Int} {g n c : Nat} (h : IntZ w0 w l (.slice (some ⟨g, 0, none⟩) n c)) : n ≤ c := by
  obtain ⟨hl, ⟨e, _⟩ | ⟨g', cap, cur, e, hB, hg, hc, hm, hs, ht⟩⟩ := h.row
  · cases e
  · simp only [Value.slice.injEq, Option.some.injEq, Addr.mk.injEq, and_true] at e
    obtain ⟨rfl, rfl, rfl⟩ := e
    omega
theorem IntZ.wide {w w2 w4 : World} {l : List Int} {v : Value} (h : IntZ w2 w4 l v) (hb : Below w.heap.size w w2) : IntZ w w4 l v := by
  obtain ⟨⟨h1, h2⟩, h3⟩ := h
  refine ⟨⟨h1, h2.imp id ?_⟩, below_then hb h3⟩
  rintro ⟨g, cap, cur, e, hB, r⟩
  exact ⟨g, cap, cur, e, Nat.le_trans hb.size hB, r⟩
theorem zeroIntZ (w : World) : (zeroValue 3).run Tryz.prog w = .ok (.int .i64 0) w := by
  first | exact Tryz.zeroValue3 w | kernel_rfl
set_option maxHeartbeats 4000000 in
theorem implDelete (fid : FuncId) (cap : Array Value) (p : Int → Bool) (eg : ∀ args w, (callFunc fid args).run Tryz.prog w = .ok (.enter fid args) w) (w0 w : World) (hG : PredZ fid cap p w0) (l : List Int) (v : Value) (h : IntZ w0 w l v) (hn : l.length ≤ 1048576) (hf : ∀ i, i < l.length → -9223372036854775808 < l.getD i 0 ∧ l.getD i 0 ≤ 9223372036854775807) :
    Calls Tryz.prog 117 #[v, .func (.func fid) #[] cap] w fun e w' => ∃ v', e = .returned v' ∧ IntZ w0 w' (l.filter (fun z => !p z)) v' := by
  obtain ⟨sa, c, rfl, hi⟩ := h.ints
  have CI := Lib.hid (implIndexFn fid cap p w0 eg hG sa l.length c (fun i => l.getD i 0) w.heap.size w hi (Nat.le_refl _) h.below hn hf)
  have HG := Lib.hid (fun k W (hk : k < l.length) hb => hG.out (l.getD k 0) W hb (hf k hk).1 (hf k hk).2)
  have H := Lib.hid h
  clear hi h hG hf
  have XS := Lib.hid (fun k (hk : k < l.length) => KeptZ.start (p := p) hk)
  have XF := Lib.hid (fun (h : ∀ i, i < l.length → p (l.getD i 0) = false) => (by
    rw [List.filter_eq_self]
    intro z hz
    obtain ⟨i, hi, e⟩ := List.getElem_of_mem hz
    have := h i hi
    rw [List.getD_eq_getElem?_getD, List.getElem?_eq_getElem hi] at this
    simp only [Option.getD_some] at this
    rw [← e, this]; rfl : l.filter (fun z => !p z) = l))
  obtain ⟨n, hn'⟩ : ∃ n, l.length = n := ⟨_, rfl⟩
  have HN := Lib.hid hn'
  rw [hn'] at CI HG hn XS XF H ⊢
  clear hn'
  go_enter Tryz.func117, Tryz.ntmps117
  go_wp2_with fail
  refine CI.out.mono ?_
  rintro e w1 ⟨r, hr, rfl, hb⟩
  have H := Lib.hid (H.out.keep hb)
  clear hb CI
  rcases hr with ⟨rfl, hall⟩ | ⟨k0, rfl, hk0, ht, hbef⟩
  · have X := Lib.hid (XF.out hall)
    clear hall XF XS
    go_wp2
    go_ret
    exact ⟨_, rfl, by rw [X.out]; exact H.out⟩
  · have K0 := Lib.hid (XS.out k0 hk0 hbef ht)
    clear ht hbef XF XS
    obtain ⟨g, c', e0, _⟩ := H.out.parts (by rw [HN.out]; omega)
    rw [HN.out] at e0
    simp only [Value.slice.injEq, true_and] at e0
    obtain ⟨rfl, rfl⟩ := e0
    have hne : ((k0 : Int) == -1) = false := beq_eq_false_iff_ne.2 (by omega)
    go_wp2
    go_loopw [5, 6] (fun s5 s6 wr => ∃ (i j : Nat) (M : List Int), s5 = .int .i64 i ∧ s6 = .int .i64 j ∧ j ≤ n ∧ KeptZ p l j i M ∧ IntZ w0 wr M (.slice (some ⟨g, 0, none⟩) n c)) (fun _ s6 _ => n - (intOf s6).toNat)
    case atStart => exact ⟨k0, k0 + 1, l, rfl, by go_num, by omega, K0.out, H.out⟩
    case round =>
      obtain ⟨i, j, M, rfl, rfl, hj, hK, hM⟩ := hrel
      have hij := hK.lt
      have KK := Lib.hid hK
      have HM := Lib.hid hM
      have hml : M.length = n := by rw [hK.len, HN.out]
      clear hK hM
      by_cases hlt : j < n
      · obtain ⟨cj, _⟩ := HM.out.cell (k := j) (by omega)
        rw [KK.out.high j (Nat.le_refl _) (by rw [HN.out]; omega)] at cj
        have HC := Lib.hid (HG.out j wr hlt HM.out.below)
        obtain ⟨z, hz⟩ : ∃ z, l.getD j 0 = z := ⟨_, rfl⟩
        have EZ := Lib.hid hz
        rw [hz] at cj HC
        clear hz
        cases hp : p z with
        | false =>
          rw [hp] at HC
          have KN := Lib.hid (KK.out.keep (by rw [HN.out]; omega) (by rw [EZ.out]; exact hp))
          rw [EZ.out] at KN
          clear hp
          have hltj := hlt
          go_wp2_with (go_at_fn fid; refine HC.out.mono ?_; rintro e w2 ⟨rfl, b2⟩; have HM2 := Lib.hid (HM.out.keep b2); clear b2; obtain ⟨ci, fi⟩ := HM2.out.cell (k := i) (by omega))
          go_roundw
          case rel => exact ⟨i + 1, j + 1, _, by go_num, by go_num, by omega, KN.out, HM2.out.set (by omega)⟩
          case measure => simp [intOf]; omega
        | true =>
          rw [hp] at HC
          have KN := Lib.hid (KK.out.skip (by rw [HN.out]; omega) (by rw [EZ.out]; exact hp))
          clear hp
          go_wp2_with (go_at_fn fid; refine HC.out.mono ?_; rintro e w2 ⟨rfl, b2⟩; have HM2 := Lib.hid (HM.out.keep b2); clear b2)
          go_roundw
          case rel => exact ⟨i, j + 1, _, rfl, by go_num, by omega, KN.out, HM2.out⟩
          case measure => simp [intOf]; omega
      · obtain rfl : j = n := by omega
        have hin : i < M.length := by omega
        have X := Lib.hid (show M.take i = l.filter (fun z => !p z) from KeptZ.done (by rw [HN.out]; exact KK.out))
        obtain ⟨L', hL1, hL2, hL3⟩ := IntZ.zeros (j - i) i _ _ HM.out (by omega)
        have HL := Lib.hid (hL1.take (i := i) (by omega))
        rw [hL3, X.out] at HL
        have hcl : ∀ ty, (Builtin.clear_ #[43] ty #[.slice (some ⟨g, i, none⟩) (j - i) (c - i)]).run Tryz.prog wr = .ok (.tuple #[]) (wr.setCells g i (List.replicate (j - i) (.int .i64 0))) :=
          fun ty => by
            have := Lib.run_clear_slice (P := Tryz.prog) wr 43 3 ty (.int .i64 0) Tryz.underlying43 zeroIntZ rfl rfl g i (j - i) (c - i) (by omega) (fun t ht => by rw [(HM.out.cell (k := i + t) (by omega)).1]; rfl) (fun t ht => (HM.out.cell (k := i + t) (by omega)).2)
            exact this
        have hcap := HM.out.cap
        have hic : i < c := by omega
        have hic2 : i ≤ c := by omega
        have hci : ¬ c = i := by omega
        clear hL1 hL2 hL3 X
        go_wp2
        go_ret
        exact ⟨_, rfl, HL.out⟩
end Go.Proofs.YtpekdmocgjjhnaaGreat

/- Indexes up to a number. -/
namespace Go.Proofs.YtpekdmocgjjhnaaGreat
open Go.RowKit
set_option maxRecDepth 100000
set_option linter.unusedVariables false

def upL (k : Nat) : List Int := (List.range k).map (fun (i : Nat) => (i : Int))
theorem upL_succ (k : Nat) : upL (k + 1) = upL k ++ [(k : Int)] := by unfold upL; rw [List.range_succ, List.map_append]; rfl
theorem upL_len (k : Nat) : (upL k).length = k := by unfold upL; simp
set_option maxHeartbeats 1000000 in
theorem implUpTo (n : Nat) (w : World) (hn : n ≤ 1048576) :
    Calls Tryz.prog 119 #[.int .i64 (n : Int)] w fun e w' => ∃ v, e = .returned v ∧ IntZ w w' (upL n) v := by
  have NX0 := Lib.hid upL_succ
  have LE := Lib.hid upL_len
  have ST := Lib.hid (IntZ.nil w w (Below.refl _ _))
  go_enter Tryz.func119, Tryz.ntmps119
  go_wp2
  go_loopw [3, 6] (fun v i wr => ∃ k : Nat, k ≤ n ∧ i = .int .i64 k ∧ IntZ w wr (upL k) v) (fun _ i _ => n - (intOf i).toNat)
  case atStart => exact ⟨0, Nat.zero_le _, rfl, ST.out⟩
  case round =>
    obtain ⟨k, hk, rfl, hir⟩ := hrel
    have IR := Lib.hid hir
    clear hir
    by_cases hlt : k < n
    · have LN := Lib.hid (show (upL k).length ≤ 1048576 by rw [LE.out]; omega)
      have NX := Lib.hid (NX0.out k)
      go_wp2_with (at_builtin; go_loud (refine wpList_appInt rfl _ _ rfl (k : Int) (upL k) _ _ rfl rfl (IR.out.keep (below1 _ _)) (blk_new _ _ rfl) LN.out ?_))
      intro v' w3 hir
      have IN := Lib.hid (NX.out ▸ hir)
      clear hir
      go_wp2
      go_roundw
      case rel => exact ⟨k + 1, by omega, by go_num, IN.out⟩
      case measure => simp [intOf]; omega
    · obtain rfl : k = n := by omega
      go_wp2
      go_ret
      exact ⟨_, rfl, IR.out⟩
end Go.Proofs.YtpekdmocgjjhnaaGreat

/- Number subscripts of the program. -/
namespace Go.Proofs.YtpekdmocgjjhnaaGreat
open Go.RowKit Go.Shelf
set_option maxRecDepth 100000
set_option linter.unusedVariables false

theorem implIsNeg (z : Int) (w : World) : Calls Tryz.prog 112 #[.int .i64 z] w fun e w' => e = .returned (.bool (decide (z < 0))) ∧ w = w' := by
  by_cases h : z < 0
  · have X := Lib.hid (decide_eq_true h)
    go_enter Tryz.func112, Tryz.ntmps112
    go_wp2
    go_ret
    exact ⟨by rw [X.out]; rfl, rfl⟩
  · have X := Lib.hid (decide_eq_false h)
    go_enter Tryz.func112, Tryz.ntmps112
    go_wp2
    go_ret
    exact ⟨by rw [X.out]; rfl, rfl⟩
theorem predNeg (w0 : World) : PredZ 112 #[] (fun z => decide (z < 0)) w0 := ⟨fun z W _ _ _ => (implIsNeg z W).mono (by rintro e w' ⟨rfl, rfl⟩; exact ⟨rfl, Below.refl _ _⟩)⟩
theorem neg_fst {c : List Int} {r : Int} (h : FstZ (fun z => decide (z < 0)) (fun i => c.getD i 0) c.length r) : decide (0 ≤ r) = bB (NegIn c) := by
  rcases h with ⟨rfl, h⟩ | ⟨j, rfl, hj, hp, _⟩
  · rw [bB_no (show ¬ NegIn c from fun ⟨i, hi, hn⟩ => by have := h i hi; simp only [decide_eq_false_iff_not] at this; exact this hn)]; rfl
  · rw [bB_yes (show NegIn c from ⟨j, hj, by simpa using hp⟩)]; exact decide_eq_true (by omega)
set_option maxHeartbeats 1000000 in
theorem implHasNeg (c : List Int) (a : Option Addr) (k B : Nat) (w : World) (hs : IntsAt B w a c.length (fun i => c.getD i 0)) (hB : B ≤ w.heap.size) (hn : c.length ≤ 1048576) (hf : ∀ i, i < c.length → -9223372036854775808 < c.getD i 0 ∧ c.getD i 0 ≤ 9223372036854775807) :
    Calls Tryz.prog 111 #[.slice a c.length k, .func (.func 112) #[] #[]] w fun e w' => e = .returned (.bool (bB (NegIn c))) ∧ Below w.heap.size w w' := by
  have C := Lib.hid (implIndexFn 112 #[] (fun z => decide (z < 0)) w (enters_of Tryz.func112 (by kernel_rfl) rfl) (predNeg w) a c.length k (fun i => c.getD i 0) B w hs hB (Below.refl _ _) hn hf)
  have X := Lib.hid (fun r h => neg_fst (c := c) (r := r) h)
  obtain ⟨bb, hb⟩ : ∃ b, bB (NegIn c) = b := ⟨_, rfl⟩
  rw [hb] at X ⊢
  clear hb hs hf
  go_enter Tryz.func111, Tryz.ntmps111
  go_wp2_with fail
  refine C.out.mono ?_
  rintro e w1 ⟨r, hr, rfl, b⟩
  have E := Lib.hid (X.out r hr)
  have BB := Lib.hid b
  clear hr b C X
  go_wp2
  go_ret
  exact ⟨by rw [← E.out]; rfl, BB.out⟩
set_option maxHeartbeats 1000000 in
theorem implAreNeg (c : List Int) (a : Option Addr) (k B : Nat) (w : World) (hs : IntsAt B w a c.length (fun i => c.getD i 0)) (hn : c.length ≤ 1048576) :
    Calls Tryz.prog 113 #[.slice a c.length k] w fun e w' => e = .returned (.bool (bB (AllNeg c))) ∧ w = w' := by
  have SA := Lib.hid hs
  have CN := Lib.hid (fun z W => implIsNeg z W)
  have XD := Lib.hid (show AllNeg c ↔ ∀ i, i < c.length → c.getD i 0 < 0 from Iff.rfl)
  obtain ⟨n, hn'⟩ : ∃ n, c.length = n := ⟨_, rfl⟩
  rw [hn'] at SA hn XD ⊢
  obtain ⟨P, hP⟩ : ∃ P, AllNeg c = P := ⟨_, rfl⟩
  rw [hP] at XD ⊢
  obtain ⟨f, hf⟩ : ∃ f : Nat → Int, (fun i => c.getD i 0) = f := ⟨_, rfl⟩
  have XD := Lib.hid (show P ↔ ∀ i, i < n → f i < 0 from hf ▸ XD.out)
  rw [hf] at SA
  clear hs hn' hP hf
  go_enter Tryz.func113, Tryz.ntmps113
  go_wp2
  go_loop [7] (fun i => ∃ k : Nat, k ≤ n ∧ i = .int .i64 k ∧ ∀ j, j < k → f j < 0) (fun i => n - (intOf i).toNat)
  case atStart => exact ⟨0, Nat.zero_le _, rfl, fun _ h => absurd h (Nat.not_lt_zero _)⟩
  case round =>
    obtain ⟨k, hk, rfl, hl⟩ := hrel
    have HL := Lib.hid hl
    clear hl
    by_cases hlt : k < n
    · obtain ⟨b, off, rfl, hb, hc⟩ := SA.out k hlt
      obtain ⟨z, hz⟩ : ∃ z, f k = z := ⟨_, rfl⟩
      have EZ := Lib.hid hz
      rw [hz] at hc
      clear hz
      by_cases hp : z < 0
      · have HN := Lib.hid (show ∀ j, j < k + 1 → f j < 0 from fun j hj => by
          by_cases e : j = k
          · subst e; rw [EZ.out]; exact hp
          · exact HL.out j (by omega))
        have CK := Lib.hid (fun W => by have h := CN.out z W; rw [decide_eq_true hp] at h; exact h)
        clear hp
        go_wp2_with (go_at_call 112; refine (CK.out _).mono ?_; rintro e w2 ⟨rfl, rfl⟩)
        go_round
        case rel => exact ⟨k + 1, by omega, by go_num, HN.out⟩
        case measure => simp [intOf]; omega
      · have X := Lib.hid (show ¬ P from fun h => hp (by rw [← EZ.out]; exact XD.out.1 h k hlt))
        have CK := Lib.hid (fun W => by have h := CN.out z W; rw [decide_eq_false hp] at h; exact h)
        clear hp
        go_wp2_with (go_at_call 112; refine (CK.out _).mono ?_; rintro e w2 ⟨rfl, rfl⟩)
        go_ret
        exact ⟨ret_no X.out, rfl⟩
    · obtain rfl : k = n := by omega
      have X := Lib.hid (show P from XD.out.2 HL.out)
      go_wp2
      go_ret
      exact ⟨ret_yes X.out, rfl⟩
set_option maxHeartbeats 1000000 in
theorem implIdxZ (z : Int) (a : Option Addr) (n k B : Nat) (f : Nat → Int) (w : World) (hs : IntsAt B w a n f) (hn : n ≤ 1048576) :
    Calls Tryz.prog 123 #[.slice a n k, .int .i64 z] w fun e w' => (∃ r : Int, e = .returned (.int .i64 r) ∧ (0 ≤ r ↔ ∃ i, i < n ∧ f i = z)) ∧ w = w' := by
  have SA := Lib.hid hs
  clear hs
  go_enter Tryz.func123, Tryz.ntmps123
  go_wp2
  go_loop [8] (fun i => ∃ k : Nat, k ≤ n ∧ i = .int .i64 k ∧ ∀ j, j < k → f j ≠ z) (fun i => n - (intOf i).toNat)
  case atStart => exact ⟨0, Nat.zero_le _, rfl, fun _ h => absurd h (Nat.not_lt_zero _)⟩
  case round =>
    obtain ⟨k, hk, rfl, hl⟩ := hrel
    have HL := Lib.hid hl
    clear hl
    by_cases hlt : k < n
    · obtain ⟨b, off, rfl, hb, hc⟩ := SA.out k hlt
      by_cases hp : f k = z
      · have X := Lib.hid (show ∃ i, i < n ∧ f i = z from ⟨k, hlt, hp⟩)
        rw [hp] at hc
        clear hp
        go_wp2
        go_ret
        exact ⟨⟨_, rfl, ⟨fun _ => X.out, fun _ => by omega⟩⟩, rfl⟩
      · have hp' : (z == f k) = false := beq_eq_false_iff_ne.2 (fun e => hp e.symm)
        have HN := Lib.hid (show ∀ i, i < k + 1 → f i ≠ z from fun i hi => by
          by_cases e : i = k
          · subst e; exact hp
          · exact HL.out i (by omega))
        clear hp
        go_wp2
        go_round
        case rel => exact ⟨k + 1, by omega, by go_num, HN.out⟩
        case measure => simp [intOf]; omega
    · obtain rfl : k = n := by omega
      have X := Lib.hid (show ¬ ∃ i, i < k ∧ f i = z from fun ⟨i, hi, h⟩ => HL.out i hi h)
      go_wp2
      go_ret
      exact ⟨⟨-1, rfl, ⟨fun h => by omega, fun h => absurd h X.out⟩⟩, rfl⟩
set_option maxHeartbeats 1000000 in
theorem implHasZ (c : List Int) (z : Int) (a : Option Addr) (k B : Nat) (w : World) (hs : IntsAt B w a c.length (fun i => c.getD i 0)) (hn : c.length ≤ 1048576) :
    Calls Tryz.prog 121 #[.slice a c.length k, .int .i64 z] w fun e w' => e = .returned (.bool (bB (HasZ c z))) ∧ w = w' := by
  have C := Lib.hid (show Calls Tryz.prog 123 #[.slice a c.length k, .int .i64 z] w (fun e w' => (∃ r : Int, e = .returned (.int .i64 r) ∧ (0 ≤ r ↔ HasZ c z)) ∧ w = w') from implIdxZ z a c.length k B (fun i => c.getD i 0) w hs hn)
  obtain ⟨P, hP⟩ : ∃ P, HasZ c z = P := ⟨_, rfl⟩
  rw [hP] at C ⊢
  clear hP hs
  go_enter Tryz.func121, Tryz.ntmps121
  go_wp2_with fail
  refine C.out.mono ?_
  rintro e w1 ⟨⟨r, rfl, hr⟩, rfl⟩
  have E := Lib.hid (show decide (0 ≤ r) = bB P from by
    by_cases h : 0 ≤ r
    · rw [decide_eq_true h, bB_yes (hr.1 h)]
    · rw [decide_eq_false h, bB_no (fun q => h (hr.2 q))])
  clear hr C
  go_wp2
  go_ret
  exact ⟨by rw [← E.out]; rfl, rfl⟩
set_option maxHeartbeats 1000000 in
theorem implExcl (c : List Int) (z : Int) (bx : Nat) (a : Option Addr) (k B : Nat) (w : World) (hx : w.heap[bx]? = some (.cells #[.slice a c.length k] 43 (0, 0))) (hs : IntsAt B w a c.length (fun i => c.getD i 0)) (hn : c.length ≤ 1048576) (h0 : -9223372036854775808 < z) (h1 : z ≤ 9223372036854775807) :
    Calls Tryz.prog 120 #[.int .i64 z, .pointer (some ⟨bx, 0, none⟩)] w fun e w' => e = .returned (.bool (bB (HasZ c (-z)))) ∧ w = w' := by
  have C := Lib.hid (implHasZ c (-z) a k B w hs hn)
  have hc : w.cell? ⟨bx, 0, none⟩ = some (.slice a c.length k) := cellOf hx rfl
  obtain ⟨bb, hb⟩ : ∃ b, bB (HasZ c (-z)) = b := ⟨_, rfl⟩
  rw [hb] at C ⊢
  clear hb hs hx
  go_enter Tryz.func120, Tryz.ntmps120
  go_wp2_with fail
  refine C.out.mono ?_
  rintro e w1 ⟨rfl, rfl⟩
  go_wp2
  go_ret
  exact ⟨rfl, rfl⟩
theorem exZ_filter (c : List Int) (n : Nat) (f : Nat → Int) (hf : ∀ i, i < n → f i = i) : (posZ f n).filter (fun z => !bB (HasZ c (-z))) = exZ c n := by
  have e : posZ f n = (List.range n).map (fun (i : Nat) => (i : Int) + 1) := by
    unfold posZ
    exact List.map_congr_left (fun i hi => by rw [hf i (List.mem_range.1 hi)])
  rw [e, List.filter_map]
  rfl
set_option maxHeartbeats 2000000 in
theorem implExcept (c : List Int) (n : Nat) (a : Option Addr) (k B : Nat) (w : World) (hs : IntsAt B w a c.length (fun i => c.getD i 0)) (hB : B ≤ w.heap.size) (hc : c.length ≤ 1048576) (hn : n ≤ 1048575) :
    Calls Tryz.prog 114 #[.slice a c.length k, .int .i64 (n : Int)] w fun e w' => ∃ v, e = .returned v ∧ IntZ w w' (exZ c n) v := by
  have UP := Lib.hid (fun W => implUpTo n W (by omega))
  have PS := Lib.hid (fun (sa : Option Addr) (cc : Nat) (W : World) (h : IntsAt W.heap.size W sa n (fun i => (upL n).getD i 0)) => implPos sa n cc (fun i => (upL n).getD i 0) W.heap.size W h (Nat.le_refl _) (by omega) (fun i hi => by unfold upL; simp [List.getD_eq_getElem?_getD, hi]; omega))
  have LU := Lib.hid (upL_len n)
  have PRE := Lib.hid (fun (w2 : World) (hb : Below w.heap.size w w2) (hx : w2.heap[w.heap.size]? = some (.cells #[.slice a c.length k] 43 (0, 0))) => (⟨fun z W hW h0 h1 => (implExcl c z w.heap.size a k B W (by rw [hW.block _ (Array.getElem?_eq_some_iff.1 hx).1]; exact hx) ((hs.below (hb.mono hB)).below (hW.mono (Nat.le_trans hB hb.size))) hc h0 h1).mono (by rintro e w' ⟨rfl, rfl⟩; exact ⟨rfl, Below.refl _ _⟩)⟩ : PredZ 120 #[.pointer (some ⟨w.heap.size, 0, none⟩)] (fun z => bB (HasZ c (-z))) w2))
  have DL := Lib.hid (fun (w2 w3 : World) (v : Value) (hG : PredZ 120 #[.pointer (some ⟨w.heap.size, 0, none⟩)] (fun z => bB (HasZ c (-z))) w2) (h : IntZ w2 w3 (posZ (fun i => (upL n).getD i 0) n) v) => (by
    have g := implDelete 120 #[.pointer (some ⟨w.heap.size, 0, none⟩)] (fun z => bB (HasZ c (-z))) (enters_of Tryz.func120 (by kernel_rfl) rfl) w2 w3 hG _ v h (by rw [posZ_len]; omega) (fun i hi => by rw [posZ_len] at hi; unfold posZ upL; simp [List.getD_eq_getElem?_getD, hi]; omega)
    rw [exZ_filter c n _ (fun i hi => by unfold upL; simp [List.getD_eq_getElem?_getD, hi])] at g
    exact g : Calls Tryz.prog 117 #[v, .func (.func 120) #[] #[.pointer (some ⟨w.heap.size, 0, none⟩)]] w3 (fun e w' => ∃ v', e = .returned v' ∧ IntZ w2 w' (exZ c n) v')))
  clear hs
  go_enter Tryz.func114, Tryz.ntmps114
  go_wp2_with fail
  obtain ⟨w1, hw1⟩ : ∃ W, w.alloc (.cells #[.slice a c.length k] 43) = W := ⟨_, rfl⟩
  have B1 := Lib.hid (show Below w.heap.size w w1 from hw1 ▸ below1 w _)
  have KX := Lib.hid (show w1.heap[w.heap.size]? = some (.cells #[.slice a c.length k] 43 (0, 0)) from hw1 ▸ blk_new w _ rfl)
  rw [hw1]
  clear hw1
  refine (UP.out _).mono ?_
  rintro e w2 ⟨v2, rfl, hz2⟩
  obtain ⟨sa, cc, rfl, hi⟩ := hz2.ints
  rw [LU.out] at hi ⊢
  have B2 := Lib.hid (below_then B1.out hz2.below)
  have KX := Lib.hid (blk_below hz2.below KX.out)
  have HI := Lib.hid hi
  clear hz2 hi
  go_wp2_with fail
  refine (PS.out _ _ _ HI.out).mono ?_
  rintro e w3 ⟨v3, rfl, hz3⟩
  have H3 := Lib.hid hz3
  clear hz3
  go_wp2_with fail
  refine (DL.out w2 w3 v3 (PRE.out w2 B2.out KX.out) H3.out).mono ?_
  rintro e w4 ⟨v4, rfl, hz4⟩
  have H4 := Lib.hid (hz4.wide B2.out)
  clear hz4
  go_wp2
  go_ret
  exact ⟨_, rfl, H4.out⟩
end Go.Proofs.YtpekdmocgjjhnaaGreat

/- Number and logical subscripts of the program. -/
namespace Go.Proofs.YtpekdmocgjjhnaaGreat
open Go.RowKit
set_option maxRecDepth 100000
set_option linter.unusedVariables false

set_option maxHeartbeats 2000000 in
theorem implProblem (l : List It) (a : Option Addr) (c lo hi : Nat) (w : World) (hI : ItemsAt lo hi w a l) (hhi : hi ≤ w.heap.size) (hn : l.length ≤ 1048576) :
    Calls Tryz.prog 108 #[.slice a l.length c] w fun e w' => e = .returned (.string (nmE l)) ∧ Below w.heap.size w w' := by
  have AI := Lib.hid (fun (k : Nat) (W : World) (hk : k < l.length) (hb : Below w.heap.size w W) => (hI.below hb hhi).at_ hk)
  have XO := Lib.hid (nmE_ok l)
  have XF := Lib.hid (nmE_frac l)
  have XU := Lib.hid (nmE_out l)
  obtain ⟨n, hn'⟩ : ∃ n, l.length = n := ⟨_, rfl⟩
  rw [hn'] at AI XO XF XU hn ⊢
  obtain ⟨R, hR⟩ : ∃ R, nmE l = R := ⟨_, rfl⟩
  rw [hR] at XO XF XU ⊢
  clear hI hn' hR
  go_enter Tryz.func108, Tryz.ntmps108
  go_wp2
  go_loopw [7] (fun i wr => ∃ k : Nat, k ≤ n ∧ i = .int .i64 k ∧ (∀ j, j < k → OkN (l.getD j noI)) ∧ Below w.heap.size w wr) (fun i _ => n - (intOf i).toNat)
  case atStart => exact ⟨0, Nat.zero_le _, rfl, (fun _ h => absurd h (Nat.not_lt_zero _)), Below.refl _ _⟩
  case round =>
    obtain ⟨k, hk, rfl, hne, hb⟩ := hrel
    have NE := Lib.hid hne
    have BW := Lib.hid hb
    clear hne hb
    by_cases hlt : k < n
    · obtain ⟨ba, off, rfl, hbB, c0, c1, c2'⟩ := AI.out k wr hlt BW.out
      have c2 : wr.cell? ⟨ba, off + k * 3 + 2, none⟩ = some (.string (l.getD k noI).t) := c2'
      clear c2'
      obtain ⟨x, hx⟩ : ∃ x, l.getD k noI = x := ⟨_, rfl⟩
      have EX := Lib.hid hx
      rw [hx] at c0 c1 c2
      clear hx
      have XF1 := Lib.hid (fun h1 => XF.out k hlt NE.out (by rw [EX.out]; exact h1))
      have XU1 := Lib.hid (show x.d ≤ 1 → (x.n < -40 ∨ 40 < x.n) → R = oobB from fun h1 h2 => XU.out k hlt NE.out (by rw [EX.out]; omega) (by rw [EX.out]; exact h2))
      by_cases h1 : 1 < x.d
      · have X := Lib.hid (XF1.out h1)
        have BN := Lib.hid (BW.out.alloc BW.out.size (.cells #[.int .i64 x.n, .int .i64 x.d, .string x.t] 66))
        clear XF XU XF1 XU1 XO
        go_wp2
        go_ret
        exact ⟨by rw [X.out]; rfl, BN.out⟩
      · have X2 := Lib.hid (show (x.n < -40 ∨ 40 < x.n) → R = oobB from fun h2 => XU1.out (by omega) h2)
        have BN := Lib.hid (BW.out.alloc BW.out.size (.cells #[.int .i64 x.n, .int .i64 x.d, .string x.t] 66))
        clear XF XU XF1 XU1
        by_cases h2 : x.n < -40
        · have X := Lib.hid (X2.out (.inl h2))
          clear X2 XO
          go_wp2
          go_ret
          exact ⟨by rw [X.out]; rfl, BN.out⟩
        · by_cases h3 : 40 < x.n
          · have X := Lib.hid (X2.out (.inr h3))
            clear X2 XO
            go_wp2
            go_ret
            exact ⟨by rw [X.out]; rfl, BN.out⟩
          · have OK := Lib.hid (show ∀ j, j < k + 1 → OkN (l.getD j noI) from fun j hj => by
              by_cases e : j = k
              · subst e; rw [EX.out]; exact ⟨by omega, by omega, by omega⟩
              · exact NE.out j (by omega))
            clear X2
            go_wp2
            go_roundw
            case rel => exact ⟨k + 1, by omega, by go_num, OK.out, BN.out⟩
            case measure => simp [intOf]; omega
    · obtain rfl : k = n := by omega
      have X := Lib.hid (XO.out NE.out)
      go_wp2
      go_ret
      exact ⟨by rw [X.out]; rfl, BW.out⟩
theorem neq_noI {w' : World} {x y : It} {X Y : Operand} (h : x ≠ y) :
    (do eqGuard .neq 66 X Y (.agg #[.int .i64 x.n, .int .i64 x.d, .string x.t]) (.agg #[.int .i64 y.n, .int .i64 y.d, .string y.t]); binOp .neq 66 (.agg #[.int .i64 x.n, .int .i64 x.d, .string x.t]) (.agg #[.int .i64 y.n, .int .i64 y.d, .string y.t]) : Sem Value).run Tryz.prog w' = .ok (.bool true) w' := by
  obtain ⟨xn, xd, xt⟩ := x
  obtain ⟨yn, yd, yt⟩ := y
  have hm : Tryz.prog.eqGuardType Tryz.prog.depth 66 = false := by kernel_rfl
  rw [Sem.run_bind, run_eqGuard_agg (hm := hm)]
  show (binOp .neq 66 _ _).run Tryz.prog w' = _
  rw [run_neq_struct]
  by_cases h0 : xn = yn
  · subst h0
    by_cases h1 : xd = yd
    · subst h1
      have h2 : ¬ xt.toList = yt.toList := fun e => h (by rw [toList_inj e])
      simp [go_sem, h2]
    · simp [go_sem, h1]
  · simp [go_sem, h0]
theorem zero_iff {x : It} (h : NumIt x) (o : OkN x) : x = ⟨0, 1, ⟨#[]⟩⟩ ↔ ¬ (x.n ≠ 0 ∨ x.d = 0) := by
  obtain ⟨n, d, t⟩ := x
  have h1 : t = ⟨#[]⟩ := h.t
  have h2 : 0 ≤ d := h.d0
  have h3 : d ≤ 1 := o.1
  constructor
  · intro e; cases e; rintro (h | h) <;> revert h <;> decide
  · intro e
    have e1 : n = 0 := Classical.byContradiction (fun q => e (.inl q))
    have e2 : ¬ d = 0 := fun q => e (.inr q)
    have e3 : d = 1 := by omega
    rw [h1, e1, e3]
set_option maxHeartbeats 2000000 in
theorem implZeros (l : List It) (a : Option Addr) (c lo hi : Nat) (w : World) (hI : ItemsAt lo hi w a l) (hhi : hi ≤ w.heap.size) (hn : l.length ≤ 1048576) (hnum : ∀ i, i < l.length → NumIt (l.getD i noI)) (hok : ∀ i, i < l.length → OkN (l.getD i noI)) :
    Calls Tryz.prog 110 #[.slice a l.length c] w fun e w' => ∃ v, e = .returned v ∧ IntZ w w' (nmC l l.length) v := by
  have AI := Lib.hid (fun (k : Nat) (W : World) (hk : k < l.length) (hb : Below w.heap.size w W) => (hI.below hb hhi).at_ hk)
  have ZI := Lib.hid (fun k (hk : k < l.length) => zero_iff (hnum k hk) (hok k hk))
  have YS := Lib.hid (fun k h => nmC_yes (l := l) (k := k) h)
  have NS := Lib.hid (fun k h => nmC_no (l := l) (k := k) h)
  have LE := Lib.hid (nmC_len l)
  have ST := Lib.hid (show IntZ w w (nmC l 0) (.slice none 0 0) from IntZ.nil w w (Below.refl _ _))
  have CM := Lib.hid (fun W => (by
    have h := implMake 0 1 W (by decide) (by decide)
    rw [mkI_int (n := 0) (by decide) (by decide)] at h
    exact h : Calls Tryz.prog 115 #[.int .i64 0, .int .i64 1] W (fun e w' => e = .returned (.agg #[.int .i64 0, .int .i64 1, .string ⟨#[]⟩]) ∧ Below W.heap.size W w')))
  obtain ⟨n, hn'⟩ : ∃ n, l.length = n := ⟨_, rfl⟩
  rw [hn'] at AI ZI hn ⊢
  clear hI hn' hnum hok
  go_enter Tryz.func110, Tryz.ntmps110
  go_wp2
  go_loopw [3, 8] (fun v i wr => ∃ k : Nat, k ≤ n ∧ i = .int .i64 k ∧ IntZ w wr (nmC l k) v) (fun _ i _ => n - (intOf i).toNat)
  case atStart => exact ⟨0, Nat.zero_le _, rfl, ST.out⟩
  case round =>
    obtain ⟨k, hk, rfl, hir⟩ := hrel
    have IR := Lib.hid hir
    clear hir
    by_cases hlt : k < n
    · obtain ⟨ba, off, rfl, hbB, c0, c1, c2'⟩ := AI.out k wr hlt IR.out.below
      have c2 : wr.cell? ⟨ba, off + k * 3 + 2, none⟩ = some (.string (l.getD k noI).t) := c2'
      have LN := Lib.hid (show (nmC l k).length ≤ 1048576 by have := LE.out k; omega)
      have Z1 := ZI.out k hlt
      have Y1 := Lib.hid (YS.out k)
      have N1 := Lib.hid (NS.out k)
      obtain ⟨x, hx⟩ : ∃ x, l.getD k noI = x := ⟨_, rfl⟩
      rw [hx] at c0 c1 c2 Z1 Y1 N1
      clear hx c2'
      obtain ⟨w2, hw2⟩ : ∃ W, wr.alloc (.cells #[.int .i64 x.n, .int .i64 x.d, .string x.t] 66) = W := ⟨_, rfl⟩
      have B2 := Lib.hid (show Below wr.heap.size wr w2 from hw2 ▸ below1 wr _)
      have K2 := Lib.hid (show w2.heap[wr.heap.size]? = some (.cells #[.int .i64 x.n, .int .i64 x.d, .string x.t] 66 (0, 0)) from hw2 ▸ blk_new wr _ rfl)
      have EW := Lib.hid hw2
      have H := Lib.hid (show HeldC w2 w2 [(wr.heap.size, 66, #[.int .i64 x.n, .int .i64 x.d, .string x.t])] from heldC_one (Below.refl _ _) K2.out)
      clear hw2
      by_cases hx0 : x = ⟨0, 1, ⟨#[]⟩⟩
      · have NX := Lib.hid (N1.out (Z1.1 hx0))
        have HX0 := Lib.hid hx0
        clear Z1 Y1 N1 hx0
        go_upto_region 5 with (fail)
        rw [EW.out]
        refine run_region (ops := (opsOf Tryz.f110 5)) (S := fun w' => HeldC w2 w' ([(wr.heap.size, 66, #[.int .i64 x.n, .int .i64 x.d, .string x.t])])) [(0, true), (1, false), (2, true)] (by kernel_rfl) (by kernel_rfl) (by kernel_rfl) (by kernel_rfl) (by kernel_rfl) (fun _ _ _ _ _ h => h) (heldC_drew H.out) ?_
        have H := Lib.hid (heldC_drew H.out)
        refine runC_itm (b := wr.heap.size) (show opAt (opsOf Tryz.f110 5) 0 = some (some 12, .load 66 (.tmp 5), none) from by kernel_rfl) (by kernel_rfl) (by kernel_rfl) (by kernel_rfl) (List.Mem.head _) ?_
        refine run_call (args := [.int .i64 0, .int .i64 1]) (show opAt (opsOf Tryz.f110 5) 1 = some (some 13, .call { callee := .value (.func 115), args := [(.const (.int .i64 0)), (.const (.int .i64 1))].toArray, argTypes := [3, 3].toArray }, none) from by kernel_rfl) (by kernel_rfl) (by kernel_rfl) (by kernel_rfl) (by kernel_rfl) ?_
        refine (CM.out _).mono ?_
        rintro en rw1 ⟨rfl, hb⟩
        refine ⟨_, rfl, heldC_call H.out hb, ?_⟩
        have H := Lib.hid (heldC_call H.out hb)
        clear hb
        refine run_same (v := .bool false) (p := .agg #[.int .i64 x.n, .int .i64 x.d, .string x.t]) (q := .agg #[.int .i64 0, .int .i64 1, .string ⟨#[]⟩]) (show opAt (opsOf Tryz.f110 5) 2 = some (some 14, .binOp .neq 66 (.tmp 12) (.tmp 13) 66, none) from by kernel_rfl) (by kernel_rfl) (by kernel_rfl) (by kernel_rfl) (by kernel_rfl) (fun w' => neq_item (x := x) (y := ⟨0, 1, ⟨#[]⟩⟩) HX0.out) ?_
        refine run_done ?_
        simp only [putAll, Act.put, List.setIfInBounds_toArray, List.set_cons_zero, List.set_cons_succ]
        have HB := Lib.hid H.out.1
        have KX := Lib.hid (heldC_at H.out (List.Mem.head _))
        clear H
        have IN := Lib.hid (NX.out ▸ (IR.out.keep (below_then B2.out HB.out)))
        go_wp2
        go_roundw
        case rel => exact ⟨k + 1, by omega, by go_num, IN.out⟩
        case measure => simp [intOf]; omega
      · have NX := Lib.hid (Y1.out (Classical.byContradiction (fun q => hx0 (Z1.2 q))))
        have HX0 := Lib.hid hx0
        clear Z1 Y1 N1 hx0
        go_upto_region 5 with (fail)
        rw [EW.out]
        refine run_region (ops := (opsOf Tryz.f110 5)) (S := fun w' => HeldC w2 w' ([(wr.heap.size, 66, #[.int .i64 x.n, .int .i64 x.d, .string x.t])])) [(0, true), (1, false), (2, true)] (by kernel_rfl) (by kernel_rfl) (by kernel_rfl) (by kernel_rfl) (by kernel_rfl) (fun _ _ _ _ _ h => h) (heldC_drew H.out) ?_
        have H := Lib.hid (heldC_drew H.out)
        refine runC_itm (b := wr.heap.size) (show opAt (opsOf Tryz.f110 5) 0 = some (some 12, .load 66 (.tmp 5), none) from by kernel_rfl) (by kernel_rfl) (by kernel_rfl) (by kernel_rfl) (List.Mem.head _) ?_
        refine run_call (args := [.int .i64 0, .int .i64 1]) (show opAt (opsOf Tryz.f110 5) 1 = some (some 13, .call { callee := .value (.func 115), args := [(.const (.int .i64 0)), (.const (.int .i64 1))].toArray, argTypes := [3, 3].toArray }, none) from by kernel_rfl) (by kernel_rfl) (by kernel_rfl) (by kernel_rfl) (by kernel_rfl) ?_
        refine (CM.out _).mono ?_
        rintro en rw1 ⟨rfl, hb⟩
        refine ⟨_, rfl, heldC_call H.out hb, ?_⟩
        have H := Lib.hid (heldC_call H.out hb)
        clear hb
        refine run_same (v := .bool true) (p := .agg #[.int .i64 x.n, .int .i64 x.d, .string x.t]) (q := .agg #[.int .i64 0, .int .i64 1, .string ⟨#[]⟩]) (show opAt (opsOf Tryz.f110 5) 2 = some (some 14, .binOp .neq 66 (.tmp 12) (.tmp 13) 66, none) from by kernel_rfl) (by kernel_rfl) (by kernel_rfl) (by kernel_rfl) (by kernel_rfl) (fun w' => neq_noI (x := x) (y := ⟨0, 1, ⟨#[]⟩⟩) HX0.out) ?_
        refine run_done ?_
        simp only [putAll, Act.put, List.setIfInBounds_toArray, List.set_cons_zero, List.set_cons_succ]
        have HB := Lib.hid H.out.1
        have KX := Lib.hid (heldC_at H.out (List.Mem.head _))
        clear H
        have IK := Lib.hid (IR.out.keep (below_then B2.out HB.out))
        have k0 := cellOf KX.out (i := 0) rfl
        go_wp2_with (at_builtin; go_loud (refine wpList_appInt rfl _ _ rfl x.n (nmC l k) _ _ rfl rfl (IK.out.keep (below1 _ _)) (blk_new _ _ rfl) LN.out ?_))
        intro v' w3 hir
        have IN := Lib.hid (NX.out ▸ hir)
        clear hir
        go_wp2
        go_roundw
        case rel => exact ⟨k + 1, by omega, by go_num, IN.out⟩
        case measure => simp [intOf]; omega
    · obtain rfl : k = n := by omega
      go_wp2
      go_ret
      exact ⟨_, rfl, IR.out⟩
/-- Positions and a problem. -/
def ResZ (l : List Int) (s : ByteArray) (w : World) (e : Ending) (w' : World) : Prop := ∃ v, e = .returned (.tuple #[v, .string s]) ∧ IntZ w w' l v
theorem resZ_nil {l : List Int} {s : ByteArray} {w w' : World} (hl : l = []) (hb : Below w.heap.size w w') : ResZ l s w (.returned (.tuple #[.slice none 0 0, .string s])) w' := by
  subst hl; exact ⟨_, rfl, IntZ.nil w w' hb⟩
set_option maxHeartbeats 4000000 in
theorem implNumSub (l : List It) (a : Option Addr) (c lo hi n : Nat) (nmv : Value) (w : World) (hI : ItemsAt lo hi w a l) (hhi : hi ≤ w.heap.size) (hl : l.length ≤ 1048576) (hn : n ≤ 40) (hnum : ∀ i, i < l.length → NumIt (l.getD i noI)) :
    Calls Tryz.prog 109 #[.slice a l.length c, .int .i64 (n : Int), nmv] w (ResZ (nuZ l n) (nuS l) w) := by
  have CP := Lib.hid (implProblem l a c lo hi w hI hhi hl)
  by_cases he : nmE l = ⟨#[]⟩
  · have hok := nmE_all l he
    have CZ := Lib.hid (fun (W : World) (hb : Below w.heap.size w W) => implZeros l a c lo hi W (hI.below hb hhi) (Nat.le_trans hhi hb.size) hl hnum hok)
    obtain ⟨C, hC⟩ : ∃ C, nmC l l.length = C := ⟨_, rfl⟩
    have hin : ∀ i, i < C.length → -40 ≤ C.getD i 0 ∧ C.getD i 0 ≤ 40 := fun i hi => by
      rw [← hC] at hi ⊢
      obtain ⟨j, h1, h2, _⟩ := nmC_mem.1 (getDZ_mem hi)
      have := hok j h1
      obtain ⟨_, h4, h5⟩ := this
      omega
    have hcl : C.length ≤ 1048576 := by rw [← hC]; exact Nat.le_trans (nmC_len l _) hl
    obtain ⟨e1, e2⟩ := nu_ok n he
    rw [hC] at e1 e2 CZ
    rw [e1, e2]
    rw [he] at CP
    have CH := Lib.hid (fun (sa : Option Addr) (k : Nat) (W : World) (h : IntsAt W.heap.size W sa C.length (fun i => C.getD i 0)) => implHasNeg C sa k W.heap.size W h (Nat.le_refl _) hcl (fun i hi => by have := hin i hi; omega))
    have CA := Lib.hid (fun (sa : Option Addr) (k : Nat) (W : World) (h : IntsAt W.heap.size W sa C.length (fun i => C.getD i 0)) => implAreNeg C sa k W.heap.size W h hcl)
    have CX := Lib.hid (fun (sa : Option Addr) (k : Nat) (W : World) (h : IntsAt W.heap.size W sa C.length (fun i => C.getD i 0)) => implExcept C n sa k W.heap.size W h (Nat.le_refl _) hcl (by omega))
    have PL := Lib.hid (fun h => nm_plain (c := C) n h)
    have MX := Lib.hid (fun h h2 => nm_mixed (c := C) n h h2)
    have MI := Lib.hid (fun h h2 => nm_minus (c := C) n h h2)
    clear hI hnum he hok hin hC e1 e2 hhi hl
    go_enter Tryz.func109, Tryz.ntmps109
    go_wp2_with fail
    refine CP.out.mono ?_
    rintro e w1 ⟨rfl, b1⟩
    have B1 := Lib.hid b1
    clear b1
    go_wp2_with fail
    refine (CZ.out _ B1.out).mono ?_
    rintro e w2 ⟨v, rfl, hz⟩
    obtain ⟨sa, k, rfl, hi'⟩ := hz.ints
    have HZ := Lib.hid hz
    have HI := Lib.hid hi'
    clear hz hi' CZ
    go_wp2_with fail
    refine (CH.out _ _ _ HI.out).mono ?_
    rintro e w3 ⟨rfl, b3⟩
    have HZ := Lib.hid ((HZ.out.keep b3).wide B1.out)
    have HI := Lib.hid ((HI.out.below b3).mono b3.size)
    clear b3 CH
    by_cases h1 : NegIn C
    · rw [bB_yes h1]
      go_wp2_with fail
      refine (CA.out _ _ _ HI.out).mono ?_
      rintro e w4 ⟨rfl, rfl⟩
      by_cases h2 : AllNeg C
      · rw [bB_yes h2]
        obtain ⟨x1, x2⟩ := MI.out h1 h2
        have X1 := Lib.hid x1
        have X2 := Lib.hid x2
        clear x1 x2 h1 h2 MI MX PL CA
        go_wp2_with fail
        refine (CX.out _ _ _ HI.out).mono ?_
        rintro e w5 ⟨v5, rfl, hz5⟩
        have H5 := Lib.hid (hz5.wide HZ.out.below)
        clear hz5
        go_wp2
        go_ret2
        exact ⟨_, by rw [X2.out]; rfl, by rw [X1.out]; exact H5.out⟩
      · rw [bB_no h2]
        obtain ⟨x1, x2⟩ := MX.out h1 h2
        have X1 := Lib.hid x1
        have X2 := Lib.hid x2
        have BZ := Lib.hid HZ.out.below
        clear x1 x2 h1 h2 MI MX PL CA CX
        go_wp2
        go_ret2
        rw [X2.out]
        exact resZ_nil X1.out BZ.out
    · rw [bB_no h1]
      obtain ⟨x1, x2⟩ := PL.out h1
      have X1 := Lib.hid x1
      have X2 := Lib.hid x2
      clear x1 x2 h1 MI MX PL CA CX
      go_wp2
      go_ret2
      exact ⟨_, by rw [X2.out]; rfl, by rw [X1.out]; exact HZ.out⟩
  · obtain ⟨e1, e2⟩ := nu_bad n he
    rw [e1, e2]
    obtain ⟨E, hE⟩ : ∃ E, nmE l = E := ⟨_, rfl⟩
    rw [hE] at he CP ⊢
    have hRb : (E.toList == []) = false := by have h := str_not he; rw [ByteArray.toList_eq ⟨#[]⟩] at h; exact h
    clear hI hnum he e1 e2 hE hhi hl
    go_enter Tryz.func109, Tryz.ntmps109
    go_wp2_with fail
    refine CP.out.mono ?_
    rintro e w1 ⟨rfl, b1⟩
    have B1 := Lib.hid b1
    clear b1 CP
    go_wp2
    go_ret2
    exact resZ_nil rfl B1.out
end Go.Proofs.YtpekdmocgjjhnaaGreat

/- Logical subscripts of the program. -/
namespace Go.Proofs.YtpekdmocgjjhnaaGreat
open Go.RowKit
set_option maxRecDepth 100000
set_option linter.unusedVariables false

theorem lgM_pos {l : List It} {n : Nat} (h : ¬ l.length = 0) : lgM l n = max n l.length := by unfold lgM; rw [if_neg h]
theorem lgM_zero {l : List It} {n : Nat} (h : l.length = 0) : lgM l n = 0 := by unfold lgM; rw [if_pos h]
theorem truth_cases (x : It) : truthI x = 0 ∨ truthI x = 1 ∨ truthI x = 2 := by unfold truthI; split <;> (try split) <;> omega
set_option maxHeartbeats 4000000 in
theorem implLgcSub (l : List It) (a : Option Addr) (c lo hi n : Nat) (nmv : Value) (w : World) (hI : ItemsAt lo hi w a l) (hhi : hi ≤ w.heap.size) (hl : l.length ≤ 40) (hn : n ≤ 40) (hnum : ∀ i, i < l.length → NumIt (l.getD i noI)) :
    Calls Tryz.prog 106 #[.slice a l.length c, .int .i64 (n : Int), nmv] w (ResZ (lgP l (lgM l n)) ⟨#[]⟩ w) := by
  by_cases h0 : l.length = 0
  · have e0 : lgP l (lgM l n) = [] := by rw [lgM_zero h0]; rfl
    rw [e0, h0]
    go_enter Tryz.func106, Tryz.ntmps106
    go_wp2
    go_ret2
    exact resZ_nil rfl (Below.refl _ _)
  · have AI := Lib.hid (fun (k : Nat) (W : World) (hk : k < l.length) (hb : Below w.heap.size w W) => (hI.below hb hhi).at_ hk)
    have CT := Lib.hid (fun (k : Nat) (W : World) (hk : k < l.length) => implTruth (l.getD k noI) W (hnum k hk))
    have LE := Lib.hid (lgP_len l)
    have PM := Lib.hid (fun k h => lgP_miss (l := l) (k := k) h)
    have PY := Lib.hid (fun k h => lgP_yes (l := l) (k := k) h)
    have PN := Lib.hid (fun k h => lgP_no (l := l) (k := k) h)
    have ST := Lib.hid (show IntZ w w (lgP l 0) (.slice none 0 0) from IntZ.nil w w (Below.refl _ _))
    have EQM := lgM_pos (n := n) h0
    obtain ⟨m, hm⟩ : ∃ m, lgM l n = m := ⟨_, rfl⟩
    rw [hm] at EQM ⊢
    have hm40 : m ≤ 40 := by omega
    obtain ⟨L, hL⟩ : ∃ L, l.length = L := ⟨_, rfl⟩
    rw [hL] at AI CT PM PY PN EQM hl h0 ⊢
    have hLp : 0 < L := by omega
    have h0b : ((L : Int) == 0) = false := beq_eq_false_iff_ne.2 (by omega)
    have hcase : (n < L ∧ m = L) ∨ (¬ n < L ∧ m = n) := by omega
    clear hI hhi hnum hm hL EQM
    rcases hcase with ⟨hlt0, rfl⟩ | ⟨hlt0, rfl⟩
    · go_enter Tryz.func106, Tryz.ntmps106
      go_wp2
      go_loopw [8, 17] (fun v i wr => ∃ k : Nat, k ≤ m ∧ i = .int .i64 k ∧ IntZ w wr (lgP l k) v) (fun _ i _ => m - (intOf i).toNat)
      case atStart => exact ⟨0, Nat.zero_le _, rfl, ST.out⟩
      case round =>
        obtain ⟨k, hk, rfl, hir⟩ := hrel
        have IR := Lib.hid hir
        clear hir
        by_cases hlt : k < m
        · have hmk : k % m < m := Nat.mod_lt k hLp
          obtain ⟨ba, off, rfl, hbB, c0, c1, c2'⟩ := AI.out (k % m) wr hmk IR.out.below
          have c2 : wr.cell? ⟨ba, off + k % m * 3 + 2, none⟩ = some (.string (l.getD (k % m) noI).t) := c2'
          have LN := Lib.hid (show (lgP l k).length ≤ 1048576 by have := LE.out k; omega)
          have CK := Lib.hid (fun W => CT.out (k % m) W hmk)
          have P1 := Lib.hid (PM.out k)
          have P2 := Lib.hid (PY.out k)
          have P3 := Lib.hid (PN.out k)
          obtain ⟨x, hx⟩ : ∃ x, l.getD (k % m) noI = x := ⟨_, rfl⟩
          rw [hx] at c0 c1 c2 CK P1 P2 P3
          have hmod : (k : Int).tmod (m : Int) = ((k % m : Nat) : Int) := rfl
          obtain ⟨q, hq⟩ : ∃ q, k % m = q := ⟨_, rfl⟩
          rw [hq] at c0 c1 c2 hmk hmod
          have TC := truth_cases x
          obtain ⟨tr, htr⟩ : ∃ t, truthI x = t := ⟨_, rfl⟩
          rw [htr] at CK P1 P2 P3 TC
          clear hx c2' htr hq
          go_wp2_with fail
          refine (CK.out _).mono ?_
          rintro e w2 ⟨rfl, b2⟩
          have IR := Lib.hid (IR.out.keep b2)
          clear b2 CK
          rcases TC with rfl | rfl | rfl
          · have IN := Lib.hid (P3.out rfl ▸ IR.out)
            clear P1 P2 P3
            go_wp2
            go_roundw
            case rel => exact ⟨k + 1, by omega, by go_num, IN.out⟩
            case measure => simp [intOf]; omega
          · have NX := Lib.hid (P2.out rfl)
            clear P1 P2 P3
            go_wp2_with (at_builtin; go_loud (refine wpList_appInt rfl _ _ rfl ((k : Int) + 1) (lgP l k) _ _ rfl rfl (IR.out.keep (below1 _ _)) (blk_new _ _ rfl) LN.out ?_))
            intro v' w3 hir
            have IN := Lib.hid (NX.out ▸ hir)
            clear hir
            go_wp2
            go_roundw
            case rel => exact ⟨k + 1, by omega, by go_num, IN.out⟩
            case measure => simp [intOf]; omega
          · have NX := Lib.hid (P1.out rfl)
            clear P1 P2 P3
            go_wp2_with (at_builtin; go_loud (refine wpList_appInt rfl _ _ rfl 0 (lgP l k) _ _ rfl rfl (IR.out.keep (below1 _ _)) (blk_new _ _ rfl) LN.out ?_))
            intro v' w3 hir
            have IN := Lib.hid (NX.out ▸ hir)
            clear hir
            go_wp2
            go_roundw
            case rel => exact ⟨k + 1, by omega, by go_num, IN.out⟩
            case measure => simp [intOf]; omega
        · obtain rfl : k = m := by omega
          go_wp2
          go_ret2
          exact ⟨_, rfl, IR.out⟩
    · go_enter Tryz.func106, Tryz.ntmps106
      go_wp2
      go_loopw [8, 17] (fun v i wr => ∃ k : Nat, k ≤ m ∧ i = .int .i64 k ∧ IntZ w wr (lgP l k) v) (fun _ i _ => m - (intOf i).toNat)
      case atStart => exact ⟨0, Nat.zero_le _, rfl, ST.out⟩
      case round =>
        obtain ⟨k, hk, rfl, hir⟩ := hrel
        have IR := Lib.hid hir
        clear hir
        by_cases hlt : k < m
        · have hmk : k % L < L := Nat.mod_lt k hLp
          obtain ⟨ba, off, rfl, hbB, c0, c1, c2'⟩ := AI.out (k % L) wr hmk IR.out.below
          have c2 : wr.cell? ⟨ba, off + k % L * 3 + 2, none⟩ = some (.string (l.getD (k % L) noI).t) := c2'
          have LN := Lib.hid (show (lgP l k).length ≤ 1048576 by have := LE.out k; omega)
          have CK := Lib.hid (fun W => CT.out (k % L) W hmk)
          have P1 := Lib.hid (PM.out k)
          have P2 := Lib.hid (PY.out k)
          have P3 := Lib.hid (PN.out k)
          obtain ⟨x, hx⟩ : ∃ x, l.getD (k % L) noI = x := ⟨_, rfl⟩
          rw [hx] at c0 c1 c2 CK P1 P2 P3
          have hmod : (k : Int).tmod (L : Int) = ((k % L : Nat) : Int) := rfl
          obtain ⟨q, hq⟩ : ∃ q, k % L = q := ⟨_, rfl⟩
          rw [hq] at c0 c1 c2 hmk hmod
          have TC := truth_cases x
          obtain ⟨tr, htr⟩ : ∃ t, truthI x = t := ⟨_, rfl⟩
          rw [htr] at CK P1 P2 P3 TC
          clear hx c2' htr hq
          go_wp2_with fail
          refine (CK.out _).mono ?_
          rintro e w2 ⟨rfl, b2⟩
          have IR := Lib.hid (IR.out.keep b2)
          clear b2 CK
          rcases TC with rfl | rfl | rfl
          · have IN := Lib.hid (P3.out rfl ▸ IR.out)
            clear P1 P2 P3
            go_wp2
            go_roundw
            case rel => exact ⟨k + 1, by omega, by go_num, IN.out⟩
            case measure => simp [intOf]; omega
          · have NX := Lib.hid (P2.out rfl)
            clear P1 P2 P3
            go_wp2_with (at_builtin; go_loud (refine wpList_appInt rfl _ _ rfl ((k : Int) + 1) (lgP l k) _ _ rfl rfl (IR.out.keep (below1 _ _)) (blk_new _ _ rfl) LN.out ?_))
            intro v' w3 hir
            have IN := Lib.hid (NX.out ▸ hir)
            clear hir
            go_wp2
            go_roundw
            case rel => exact ⟨k + 1, by omega, by go_num, IN.out⟩
            case measure => simp [intOf]; omega
          · have NX := Lib.hid (P1.out rfl)
            clear P1 P2 P3
            go_wp2_with (at_builtin; go_loud (refine wpList_appInt rfl _ _ rfl 0 (lgP l k) _ _ rfl rfl (IR.out.keep (below1 _ _)) (blk_new _ _ rfl) LN.out ?_))
            intro v' w3 hir
            have IN := Lib.hid (NX.out ▸ hir)
            clear hir
            go_wp2
            go_roundw
            case rel => exact ⟨k + 1, by omega, by go_num, IN.out⟩
            case measure => simp [intOf]; omega
        · obtain rfl : k = m := by omega
          go_wp2
          go_ret2
          exact ⟨_, rfl, IR.out⟩
end Go.Proofs.YtpekdmocgjjhnaaGreat

/- Text subscripts of the program. -/
namespace Go.Proofs.YtpekdmocgjjhnaaGreat
open Go.RowKit
set_option maxRecDepth 100000
set_option linter.unusedVariables false

theorem rows_apart {w : World} {b1 b2 : Nat} {e1 e2 : TypeId} {s1 s2 n1 n2 : Nat} {v1 v2 : Value} {x1 x2 : List Value} (h1 : w.ownsRow b1 e1 s1 v1 n1 x1) (h2 : w.ownsRow b2 e2 s2 v2 n2 x2) (he : e1 ≠ e2) {g : Nat} (hg1 : v1.ownBlock = some g) (hg2 : v2.ownBlock = some g) : False := by
  obtain ⟨_, ⟨rfl, _⟩ | ⟨g', cap, cur, rfl, _, hb, _⟩⟩ := h1
  · cases hg1
  · obtain ⟨_, ⟨rfl, _⟩ | ⟨g2', cap2, cur2, rfl, _, hb2, _⟩⟩ := h2
    · cases hg2
    · obtain rfl : g' = g := Option.some.inj hg1
      obtain rfl : g2' = g' := Option.some.inj hg2
      rw [hb] at hb2
      simp only [Option.some.injEq, Obj.cells.injEq] at hb2
      exact he hb2.2.1
theorem item_own {w : World} {b1 s1 n1 g : Nat} {v1 : Value} {x1 : List Value} {C : Array Value} (h1 : w.ownsRow b1 9 s1 v1 n1 x1) (hb : w.heap[g]? = some (.cells C 66 (0, 0))) (hg : v1.ownBlock = some g) : False := by
  obtain ⟨_, ⟨rfl, _⟩ | ⟨g', cap, cur, rfl, _, hb2, _⟩⟩ := h1
  · cases hg
  · obtain rfl : g' = g := Option.some.inj hg
    rw [hb] at hb2
    simp only [Option.some.injEq, Obj.cells.injEq] at hb2
    exact absurd hb2.2.1 (by decide)
theorem wpList_appTx2 {w0 w : World} {ops : Array Oper} {rest : List Oper} {o : Oper} {a : Act} {Q : Exit → Act → World → Prop} (hgd : o.guard = none) (s x : Operand)
    (ho : o.op = .call { callee := .builtin .append, args := #[s, x], argTypes := #[24, 24] }) (z : ByteArray) (l : List ByteArray) (v0 : Value) (b : Nat) (hs : a.eval s = v0) (hx : a.eval x = .slice (some ⟨b, 0, none⟩) 1 1)
    (hr : TxZ w0 w l v0) (hb : w.heap[b]? = some (.cells #[.string z] 9 (0, 0))) (hn : l.length ≤ 1048576) {P : List Int} {v9 : Value} (h9 : IntZ w0 w P v9)
    (h : ∀ v' w', TxZ w0 w' (l ++ [z]) v' → IntZ w0 w' P v9 → (∀ (g : Nat) (C : Array Value), w.heap[g]? = some (Obj.cells C 66 (0, 0)) → w'.heap[g]? = some (Obj.cells C 66 (0, 0))) → wpList Tryz.prog ops Q rest (a.put o.dst v') w') : wpList Tryz.prog ops Q (o :: rest) a w := by
  obtain ⟨i0, hi0, hz0, hz1, hz2⟩ := info_parts infoStr
  refine wpList_append_own w hgd s x 24 ho w0.heap.size 9 i0 (.string ⟨#[]⟩) 1 16 Tryz.underlying24 hi0 hz0 hz1 hz2 rfl (by decide) v0 l.length (l.map Value.string) hs hr.row ⟨b, 0, none⟩ 1 1 [.string z] hx rfl (fun j u hj => ?_) (fun u hu => by obtain rfl := List.mem_singleton.1 hu; rfl) (by unfold maxLen; omega) (by omega) hr.below.size (fun v' w' h1 h2 _ => ?_)
  · obtain rfl : j = 0 := by have := (List.getElem?_eq_some_iff.1 hj).1; simpa using this
    obtain rfl : Value.string z = u := by simpa using hj
    rw [addr_add]
    exact cellOf hb rfl
  · have e1 : l.length + 1 = (l ++ [z]).length := by simp
    have e2 : l.map Value.string ++ [Value.string z] = (l ++ [z]).map Value.string := by rw [List.map_append]; rfl
    rw [e1, e2] at h1
    have hbl : Below w0.heap.size w0 w' := hr.below.grown h2 hr.below.size (fun r hr' => (hr.row.lt r hr').1)
    exact h v' w' ⟨h1, hbl⟩ ⟨ownsRow_kept h9.row (fun g hg => h2.block g (h9.row.lt g hg).2 (fun e => rows_apart h9.row hr.row (by decide) hg e.symm)), hbl⟩ (fun g C hg => (h2.block g (Array.getElem?_eq_some_iff.1 hg).1 (fun e => item_own hr.row hg e.symm)).trans hg)
theorem wpList_appInt2 {w0 w : World} {ops : Array Oper} {rest : List Oper} {o : Oper} {a : Act} {Q : Exit → Act → World → Prop} (hgd : o.guard = none) (s x : Operand)
    (ho : o.op = .call { callee := .builtin .append, args := #[s, x], argTypes := #[43, 43] }) (z : Int) (l : List Int) (v0 : Value) (b : Nat) (hs : a.eval s = v0) (hx : a.eval x = .slice (some ⟨b, 0, none⟩) 1 1)
    (hr : IntZ w0 w l v0) (hb : w.heap[b]? = some (.cells #[.int .i64 z] 3 (0, 0))) (hn : l.length ≤ 1048576) {K : List ByteArray} {v8 : Value} (h8 : TxZ w0 w K v8)
    (h : ∀ v' w', IntZ w0 w' (l ++ [z]) v' → TxZ w0 w' K v8 → wpList Tryz.prog ops Q rest (a.put o.dst v') w') : wpList Tryz.prog ops Q (o :: rest) a w := by
  obtain ⟨i0, hi0, hz0, hz1, hz2⟩ := info_parts infoInt
  refine wpList_append_own w hgd s x 43 ho w0.heap.size 3 i0 (.int .i64 0) 1 8 Tryz.underlying43 hi0 hz0 hz1 hz2 rfl (by decide) v0 l.length (intC l) hs hr.row ⟨b, 0, none⟩ 1 1 [.int .i64 z] hx rfl (fun j u hj => ?_) (fun u hu => by obtain rfl := List.mem_singleton.1 hu; rfl) (by unfold maxLen; omega) (by omega) hr.below.size (fun v' w' h1 h2 _ => ?_)
  · obtain rfl : j = 0 := by have := (List.getElem?_eq_some_iff.1 hj).1; simpa using this
    obtain rfl : Value.int .i64 z = u := by simpa using hj
    rw [addr_add]
    exact cellOf hb rfl
  · have e1 : l.length + 1 = (l ++ [z]).length := by simp
    have e2 : intC l ++ [Value.int .i64 z] = intC (l ++ [z]) := intC_app l [z]
    rw [e1, e2] at h1
    have hbl : Below w0.heap.size w0 w' := hr.below.grown h2 hr.below.size (fun r hr' => (hr.row.lt r hr').1)
    exact h v' w' ⟨h1, hbl⟩ ⟨ownsRow_kept h8.row (fun g hg => h2.block g (h8.row.lt g hg).2 (fun e => rows_apart h8.row hr.row (by decide) hg e.symm)), hbl⟩
/-- A row of empty texts with others laid over its beginning. -/
theorem TxZ.spliced {w0 w1 w2 : World} {g n : Nat} {names : List ByteArray} (h : w1.ownsRow w0.heap.size 9 1 (.slice (some ⟨g, 0, none⟩) n n) n (List.replicate n (.string ⟨#[]⟩))) (hg : w2.heap[g]? = some (.cells (splice (List.replicate n (Value.string ⟨#[]⟩)) 0 (names.map Value.string)).toArray 9 (0, 0))) (hb : Below w0.heap.size w0 w2) (hl : names.length ≤ n) :
    TxZ w0 w2 (padL names n) (.slice (some ⟨g, 0, none⟩) n n) := by
  obtain ⟨_, ⟨e, _⟩ | ⟨g', cap, cur, e, hB, _, _, hm, _, _⟩⟩ := h
  · cases e
  · simp only [Value.slice.injEq, Option.some.injEq, Addr.mk.injEq, and_true, true_and] at e
    obtain ⟨rfl, rfl⟩ := e
    have e1 := padL_len names n hl
    have e2 : (splice (List.replicate n (Value.string ⟨#[]⟩)) 0 (names.map Value.string)) = (padL names n).map Value.string := by
      unfold splice padL
      rw [List.take_zero, List.nil_append, Nat.zero_add, List.length_map, List.drop_replicate, List.map_append, List.map_replicate]
    rw [e2] at hg
    refine ⟨⟨by rw [List.length_map, Nat.mul_one], .inr ⟨g, n, _, by rw [e1], hB, hg, by rw [e1]; exact Nat.le_refl _, hm, by simp [e1], ?_⟩⟩, hb⟩
    rw [e1]
    simp only [Nat.mul_one]
    exact List.take_of_length_le (by rw [List.length_map, e1]; exact Nat.le_refl _)
theorem row_full {w : World} {base g n : Nat} {xs : List Value} (h : w.ownsRow base 9 1 (.slice (some ⟨g, 0, none⟩) n n) n xs) : w.heap[g]? = some (.cells xs.toArray 9 (0, 0)) := by
  obtain ⟨_, ⟨e, _⟩ | ⟨g', cap, cur, e, hB, hb, _, hm, hs, ht⟩⟩ := h
  · cases e
  · simp only [Value.slice.injEq, Option.some.injEq, Addr.mk.injEq, and_true, true_and] at e
    obtain ⟨rfl, rfl⟩ := e
    rw [hb, ← ht, List.take_of_length_le (by simp [hs])]
theorem made_texts (n : Nat) : (madeCells #[Value.string ⟨#[]⟩] n).toList = List.replicate n (.string ⟨#[]⟩) := by
  apply List.ext_getElem
  · simp [madeCells]
  · intro i h1 h2
    simp [madeCells, Nat.mod_one]
set_option maxHeartbeats 4000000 in
theorem implTxtSub (l : List It) (names : List ByteArray) (a an : Option Addr) (c cn lo hi lo2 hi2 n : Nat) (w : World) (hI : ItemsAt lo hi w a l) (hhi : hi ≤ w.heap.size) (hN : TextsAt lo2 hi2 w an names) (hh2 : hi2 ≤ w.heap.size) (hl : l.length ≤ 40) (hn : n ≤ 40) (hnm : names.length = 0 ∨ names.length = n) (hit : ∀ i, i < l.length → ItOk 3 (l.getD i noI)) :
    Calls Tryz.prog 124 #[.slice a l.length c, .int .i64 (n : Int), .slice an names.length cn] w (ResZ (teZ (padL names n) l) (teS l) w) := by
  have AI := Lib.hid (fun (k : Nat) (W : World) (hk : k < l.length) (hb : Below w.heap.size w W) => (hI.below hb hhi).at_ hk)
  have HT := Lib.hid hit
  have XP := Lib.hid (fun (W : World) (hb : Below w.heap.size w W) (h0 : 0 < (names.map Value.string).length) => (by
    rw [List.length_map] at h0
    obtain ⟨b, off, e⟩ := texts_some hN h0
    exact ⟨⟨b, off, none⟩, e, by subst e; exact news_cells (hN.below hb hh2)⟩ : ∃ ad, an = some ad ∧ ∀ j v, (names.map Value.string)[j]? = some v → W.cell? (ad.add j) = some v))
  have LM := Lib.hid (show (names.map Value.string).length = Nat.min names.length n by rw [List.length_map]; rcases hnm with e | e <;> rw [e] <;> simp)
  have LF := Lib.hid (show 0 + (names.map Value.string).length ≤ (List.replicate n (Value.string ⟨#[]⟩)).length by rw [List.length_map, List.length_replicate]; omega)
  have L1 := Lib.hid (show ∀ v ∈ names.map Value.string, v.oneCell' = true from fun v hv => by obtain ⟨_, _, rfl⟩ := List.mem_map.1 hv; rfl)
  have HL := Lib.hid (show names.length ≤ n by omega)
  have SP := Lib.hid (fun (w1 w2 : World) h hg hb => TxZ.spliced (w0 := w) (w1 := w1) (w2 := w2) (g := w.heap.size) (n := n) (names := names) h hg hb HL.out)
  have KL := Lib.hid (fun k => (by have := txK_len (padL names n) l k; rw [padL_len names n (by omega)] at this; exact this : (txK (padL names n) l k).length ≤ n + k))
  have PL := Lib.hid (txP_len (padL names n) l)
  have PM := Lib.hid (fun k h => txP_miss (K := padL names n) (l := l) (k := k) h)
  have PO := Lib.hid (fun k h0 h => txP_old (K := padL names n) (l := l) (k := k) h0 h)
  have PN := Lib.hid (fun k h0 h => txP_new (K := padL names n) (l := l) (k := k) h0 h)
  have KM := Lib.hid (fun k h => txK_miss (K := padL names n) (l := l) (k := k) h)
  have KO := Lib.hid (fun k h => txK_old (K := padL names n) (l := l) (k := k) h)
  have KN := Lib.hid (fun k h0 h => txK_new (K := padL names n) (l := l) (k := k) h0 h)
  have TO := Lib.hid (fun h => te_ok (K := padL names n) (l := l) h)
  have TB := Lib.hid (fun h => te_bad (K := padL names n) (l := l) h)
  have K0 := Lib.hid (show txK (padL names n) l 0 = padL names n from rfl)
  have P0 := Lib.hid (show txP (padL names n) l 0 = [] from rfl)
  have AT := Lib.hid (show AllT l ↔ ∀ i, i < l.length → OkT (l.getD i noI) from Iff.rfl)
  obtain ⟨K, hK⟩ : ∃ K : Nat → List ByteArray, txK (padL names n) l = K := ⟨_, rfl⟩
  obtain ⟨Z, hZ⟩ : ∃ Z : Nat → List Int, txP (padL names n) l = Z := ⟨_, rfl⟩
  rw [hK] at KL PO PN KM KO KN K0
  rw [hZ] at PL PM PO PN TO P0
  obtain ⟨R, hR⟩ : ∃ R, teZ (padL names n) l = R := ⟨_, rfl⟩
  obtain ⟨E, hE⟩ : ∃ E, teS l = E := ⟨_, rfl⟩
  rw [hR] at TO TB ⊢
  rw [hE] at TO TB ⊢
  obtain ⟨m, hm⟩ : ∃ m, l.length = m := ⟨_, rfl⟩
  rw [hm] at AI HT TO AT hl ⊢
  obtain ⟨CS, hCS⟩ : ∃ C, names.map Value.string = C := ⟨_, rfl⟩
  rw [hCS] at XP LM LF L1 SP
  obtain ⟨RS, hRS⟩ : ∃ C, List.replicate n (Value.string ⟨#[]⟩) = C := ⟨_, rfl⟩
  have MT := Lib.hid (made_texts n)
  rw [hRS] at LF SP MT
  obtain ⟨PD, hPD⟩ : ∃ P, padL names n = P := ⟨_, rfl⟩
  rw [hPD] at SP K0
  obtain ⟨nn, hnn⟩ : ∃ x, names.length = x := ⟨_, rfl⟩
  rw [hnn] at LM ⊢
  clear hI hhi hN hh2 hit hK hZ hR hE hm hCS hRS hPD hnn hnm HL
  obtain ⟨i0, hi0, hz0, hz1, hz2⟩ := info_parts infoStr
  have BY := Lib.hid (show i0.bytes * n ≤ 281474976710656 by rw [hz2]; omega)
  go_enter Tryz.func124, Tryz.ntmps124
  go_wp2_with (at_make; go_loud (refine wpList_make_full _ rfl _ _ 24 rfl w.heap.size 9 i0 (.string ⟨#[]⟩) 1 Tryz.underlying24 hi0 hz0 hz1 .i64 .i64 (n : Int) (n : Int) n rfl rfl rfl rfl BY.out (by unfold maxLen; omega) (Nat.le_refl _) ?_))
  intro w1 hr1 hg1
  rw [MT.out] at hr1
  have R1 := Lib.hid hr1
  have B1 := Lib.hid (show Below w.heap.size w w1 from (Below.refl _ _).grown hg1 (Nat.le_refl _) (fun k e => by cases e))
  have HG := Lib.hid (row_full hr1)
  clear hr1 hg1
  go_wp2_with (refine wpList_copy_splice rfl _ _ 24 24 rfl 9 Tryz.underlying24 (by kernel_rfl) (some ⟨w.heap.size, 0, none⟩) an n n nn cn rfl rfl w.heap.size 0 RS 9 HG.out CS LM.out (fun h0 => ⟨rfl, XP.out _ B1.out h0⟩) LF.out L1.out w.heap.size w B1.out (Nat.le_refl _) ?_)
  intro w2 hg2 hb2
  have T0 := Lib.hid (show TxZ w w2 (K 0) (.slice (some ⟨w.heap.size, 0, none⟩) n n) from K0.out ▸ SP.out w1 w2 R1.out hg2.out hb2)
  have I0 := Lib.hid (show IntZ w w2 (Z 0) (.slice none 0 0) from P0.out ▸ IntZ.nil w w2 hb2)
  clear hg2 hb2 R1 B1 HG
  go_wp2
  go_loopw [8, 9, 19] (fun v8 v9 i wr => ∃ k : Nat, k ≤ m ∧ i = .int .i64 k ∧ TxZ w wr (K k) v8 ∧ IntZ w wr (Z k) v9 ∧ ∀ j, j < k → OkT (l.getD j noI)) (fun _ _ i _ => m - (intOf i).toNat)
  case atStart => exact ⟨0, Nat.zero_le _, rfl, T0.out, I0.out, fun _ h => absurd h (Nat.not_lt_zero _)⟩
  case round =>
    obtain ⟨k, hk, rfl, ht, hz, hok⟩ := hrel
    have TZ := Lib.hid ht
    have IZ := Lib.hid hz
    have OK := Lib.hid hok
    clear ht hz hok
    by_cases hlt : k < m
    · obtain ⟨ba, off, rfl, hbB, c0, c1, c2'⟩ := AI.out k wr hlt IZ.out.below
      have c2 : wr.cell? ⟨ba, off + k * 3 + 2, none⟩ = some (.string (l.getD k noI).t) := c2'
      have IT := HT.out k hlt
      have LN := Lib.hid (show (Z k).length ≤ 1048576 by rw [PL.out k]; omega)
      have LK := Lib.hid (show (K k).length ≤ 1048576 by have := KL.out k; omega)
      have ATk := Lib.hid (show AllT l → OkT (l.getD k noI) from fun h => AT.out.1 h k hlt)
      have PM1 := Lib.hid (PM.out k)
      have PO1 := Lib.hid (PO.out k)
      have PN1 := Lib.hid (PN.out k)
      have KM1 := Lib.hid (KM.out k)
      have KO1 := Lib.hid (KO.out k)
      have KN1 := Lib.hid (KN.out k)
      have OKN := Lib.hid (show OkT (l.getD k noI) → ∀ j, j < k + 1 → OkT (l.getD j noI) from fun h j hj => by
        by_cases e : j = k
        · subst e; exact h
        · exact OK.out j (by omega))
      obtain ⟨x, hx⟩ : ∃ x, l.getD k noI = x := ⟨_, rfl⟩
      rw [hx] at c0 c1 c2 IT PM1 PO1 PN1 KM1 KO1 KN1 OKN ATk
      clear hx c2'
      have hcase : x = noI ∨ ∃ t : ByteArray, x = ⟨0, 1, t⟩ := by
        rcases IT with h | ⟨h, _⟩ | ⟨h, _⟩ | ⟨_, h1, h2, _⟩
        · exact .inl h
        · exact absurd h (by decide)
        · exact absurd h (by decide)
        · obtain ⟨xn, xd, xt⟩ := x
          have h1' : xn = 0 := h1
          have h2' : xd = 1 := h2
          subst h1' h2'
          exact .inr ⟨xt, rfl⟩
      rcases hcase with rfl | ⟨t, rfl⟩
      · have NX := Lib.hid (PM1.out rfl)
        have NK := Lib.hid (KM1.out rfl)
        have ON := Lib.hid (OKN.out (.inl rfl))
        clear PM1 PO1 PN1 KM1 KO1 KN1 OKN ATk IT
        have c0' : wr.cell? ⟨ba, off + k * 3, none⟩ = some (.int .i64 0) := c0
        have c1' : wr.cell? ⟨ba, off + k * 3 + 1, none⟩ = some (.int .i64 0) := c1
        have c2' : wr.cell? ⟨ba, off + k * 3 + 2, none⟩ = some (.string ⟨#[]⟩) := c2
        clear c0 c1 c2
        go_wp2_with (at_builtin; go_loud (refine wpList_appInt2 rfl _ _ rfl 0 (Z k) _ _ rfl rfl (IZ.out.keep (below2 _ _ _)) (by first | exact blk_new _ _ rfl | exact blk_new _ _ (by simp)) LN.out (TZ.out.keep (below2 _ _ _)) ?_))
        intro v' w3 hir htx
        have IN := Lib.hid (NX.out ▸ hir)
        have TN := Lib.hid (NK.out ▸ htx)
        clear hir htx
        go_wp2
        go_roundw
        case rel => exact ⟨k + 1, by omega, by go_num, TN.out, IN.out, ON.out⟩
        case measure => simp [intOf]; omega
      · obtain ⟨wa, hwa⟩ : ∃ W, wr.alloc (.cells #[.int .i64 0, .int .i64 1, .string t] 66) = W := ⟨_, rfl⟩
        have BA := Lib.hid (show Below wr.heap.size wr wa from hwa ▸ below1 wr _)
        have KB := Lib.hid (show wa.heap[wr.heap.size]? = some (.cells #[.int .i64 0, .int .i64 1, .string t] 66 (0, 0)) from hwa ▸ blk_new wr _ rfl)
        have TZ := Lib.hid (TZ.out.keep BA.out)
        have IZ := Lib.hid (IZ.out.keep BA.out)
        have EW := Lib.hid hwa
        have c0' : wr.cell? ⟨ba, off + k * 3, none⟩ = some (.int .i64 0) := c0
        have c1' : wr.cell? ⟨ba, off + k * 3 + 1, none⟩ = some (.int .i64 1) := c1
        have c2' : wr.cell? ⟨ba, off + k * 3 + 2, none⟩ = some (.string t) := c2
        have NN := Lib.hid (show ¬ (⟨0, 1, t⟩ : It) = noI from fun e => absurd (congrArg It.d e) (show ¬ (1 : Int) = 0 by decide))
        have PO2 := Lib.hid (fun h => PO1.out NN.out h)
        have PN2 := Lib.hid (fun h => PN1.out NN.out h)
        have KN2 := Lib.hid (fun h => KN1.out NN.out h)
        have hok' := Lib.hid (show OkT ⟨0, 1, t⟩ → t.size ≠ 0 from fun h => h.elim (fun e => absurd e NN.out) id)
        clear hwa c0 c1 c2 IT PM1 PO1 PN1 KM1 KN1
        by_cases ht0 : t.size = 0
        · have NA := Lib.hid (show ¬ AllT l from fun h => hok'.out (ATk.out h) ht0)
          obtain ⟨x1, x2⟩ := TB.out NA.out
          have X1 := Lib.hid x1
          have X2 := Lib.hid x2
          obtain rfl := empty_of_size ht0
          have BZ := Lib.hid IZ.out.below
          clear x1 x2 ht0 hok' ATk OKN PO2 PN2 KN2 KO1 NA
          go_upto_region 7 with (fail)
          rw [EW.out]
          have k0 := cellOf KB.out (i := 0) rfl
          have k1 := cellOf KB.out (i := 1) rfl
          have k2 := cellOf KB.out (i := 2) rfl
          go_wp2
          go_ret2
          rw [X2.out]
          exact resZ_nil X1.out BZ.out
        · have hne := notEmptyB ht0
          have ON := Lib.hid (OKN.out (.inr ht0))
          clear ht0 hok' ATk OKN
          obtain ⟨s8, n8, c8, rfl⟩ := TZ.out.form
          obtain rfl := TZ.out.slice
          have CC := Lib.hid (implContains t s8 (K k).length c8 (fun i => (K k).getD i ⟨#[]⟩) wa.heap.size wa (texts_strs TZ.out.texts) (by have := LK.out; omega))
          have CI := Lib.hid (show Calls Tryz.prog 86 #[.slice s8 (K k).length c8, .string t] wa (fun e w' => e = .returned (.int .i64 (findL (K k) t)) ∧ wa = w') from implIndexF t s8 (K k).length c8 (fun i => (K k).getD i ⟨#[]⟩) wa.heap.size wa (texts_strs TZ.out.texts) (by have := LK.out; omega))
          have FI := Lib.hid (show 0 ≤ findL (K k) t ↔ IsIn t (fun i => (K k).getD i ⟨#[]⟩) (K k).length from findL_in)
          have FL := Lib.hid (findL_le (K k) t)
          have FH := Lib.hid (findL_lt (K k) t)
          go_upto_region 7 with (fail)
          rw [EW.out]
          have k0 := cellOf KB.out (i := 0) rfl
          have k1 := cellOf KB.out (i := 1) rfl
          have k2 := cellOf KB.out (i := 2) rfl
          go_wp2_with fail
          refine CC.out.mono ?_
          rintro e w2 ⟨rfl, rfl⟩
          by_cases hin : 0 ≤ findL (K k) t
          · rw [bB_yes (FI.out.1 hin)]
            have NX := Lib.hid (PO2.out hin)
            have NK := Lib.hid (KO1.out hin)
            have hz1 := FH.out
            have hlk := LK.out
            clear PO2 PN2 KN2 KO1 FI FH CC
            obtain ⟨z, hz⟩ : ∃ z, findL (K k) t = z := ⟨_, rfl⟩
            rw [hz] at CI NX hin hz1 FL
            clear hz
            go_wp2_with fail
            refine CI.out.mono ?_
            rintro e w2 ⟨rfl, rfl⟩
            go_wp2_with (at_builtin; go_loud (refine wpList_appInt2 rfl _ _ rfl (z + 1) (Z k) _ _ rfl rfl (IZ.out.keep (below1 _ _)) (blk_new _ _ rfl) LN.out (TZ.out.keep (below1 _ _)) ?_))
            intro v' w3 hir htx
            have IN := Lib.hid (NX.out ▸ hir)
            have TN := Lib.hid (show TxZ w w3 (K (k + 1)) _ from by rw [NK.out]; exact htx)
            clear hir htx
            go_wp2
            go_roundw
            case rel => exact ⟨k + 1, by omega, by go_num, TN.out, IN.out, ON.out⟩
            case measure => simp [intOf]; omega
          · rw [bB_no (fun q => hin (FI.out.2 q))]
            have NX := Lib.hid (PN2.out (by omega))
            have NK := Lib.hid (KN2.out (by omega))
            have FN := Lib.hid (findL_new (K := K k) (s := t) (by omega))
            have hlk := LK.out
            clear PO2 PN2 KN2 KO1 FI FH FL CC CI hin
            go_wp2_with (at_builtin; go_loud (refine wpList_appTx2 rfl _ _ rfl t (K k) _ _ rfl rfl (TZ.out.keep (below1 _ _)) (blk_new _ _ rfl) LK.out (IZ.out.keep (below1 _ _)) ?_))
            intro v' w3 htx hir hkp
            have TN := Lib.hid htx
            have IZ3 := Lib.hid hir
            have KB3 := Lib.hid (hkp _ _ (blk_old KB.out))
            obtain ⟨s9, n9, c9, rfl⟩ := TN.out.form
            obtain rfl := TN.out.slice
            have CI := Lib.hid (show Calls Tryz.prog 86 #[.slice s9 (K k ++ [t]).length c9, .string t] w3 (fun e w' => e = .returned (.int .i64 ((K k).length : Int)) ∧ w3 = w') from by
              rw [← FN.out]
              exact implIndexF t s9 (K k ++ [t]).length c9 (fun i => (K k ++ [t]).getD i ⟨#[]⟩) w3.heap.size w3 (texts_strs TN.out.texts) (by simp only [List.length_append, List.length_singleton]; omega))
            clear htx hir hkp k0 k1 k2 FN
            have k2 := cellOf KB3.out (i := 2) rfl
            obtain ⟨KN', hKN⟩ : ∃ X, K k ++ [t] = X := ⟨_, rfl⟩
            rw [hKN] at TN NK CI ⊢
            clear hKN
            go_wp2_with fail
            refine CI.out.mono ?_
            rintro e w2 ⟨rfl, rfl⟩
            go_wp2_with (at_builtin; go_loud (refine wpList_appInt2 rfl _ _ rfl (((K k).length : Int) + 1) (Z k) _ _ rfl rfl (IZ3.out.keep (below1 _ _)) (blk_new _ _ rfl) LN.out (TN.out.keep (below1 _ _)) ?_))
            intro v' w4 hir htx
            have IN := Lib.hid (NX.out ▸ hir)
            have TN := Lib.hid (show TxZ w w4 (K (k + 1)) _ from by rw [NK.out]; exact htx)
            clear hir htx
            go_wp2
            go_roundw
            case rel => exact ⟨k + 1, by omega, by go_num, TN.out, IN.out, ON.out⟩
            case measure => simp [intOf]; omega
    · obtain rfl : k = m := by omega
      have AA := Lib.hid (AT.out.2 OK.out)
      obtain ⟨x1, x2⟩ := TO.out AA.out
      have X1 := Lib.hid x1
      have X2 := Lib.hid x2
      clear x1 x2 TO TB
      go_wp2
      go_ret2
      exact ⟨_, by rw [X2.out]; rfl, by rw [X1.out]; exact IZ.out⟩
end Go.Proofs.YtpekdmocgjjhnaaGreat

/- ResolvePositions of the program. -/
namespace Go.Proofs.YtpekdmocgjjhnaaGreat
open Go.RowKit
set_option maxRecDepth 100000
set_option linter.unusedVariables false

theorem implSub_emptySubscript (ai ap an ac al : Option Addr) (ni ci np cp nn cn nc cc nl cl : Nat) (code env : Int) (w : World) : Calls Tryz.prog 62 #[.agg #[.int .i64 0, .slice ai ni ci, .slice ap np cp, .slice an nn cn, .slice ac nc cc, .slice al nl cl, .int .i64 code, .int .i64 env]] w fun e w' => e = .returned (.iface 87 (.agg #[])) ∧ Below w.heap.size w w' := by
  go_enter Tryz.func62, Tryz.ntmps62
  go_wp2
  go_ret
  exact ⟨rfl, below1 _ _⟩
theorem implSub_logicalSubscript (ai ap an ac al : Option Addr) (ni ci np cp nn cn nc cc nl cl : Nat) (code env : Int) (w : World) : Calls Tryz.prog 62 #[.agg #[.int .i64 1, .slice ai ni ci, .slice ap np cp, .slice an nn cn, .slice ac nc cc, .slice al nl cl, .int .i64 code, .int .i64 env]] w fun e w' => e = .returned (.iface 88 (.slice ai ni ci)) ∧ Below w.heap.size w w' := by
  go_enter Tryz.func62, Tryz.ntmps62
  go_wp2
  go_ret
  exact ⟨rfl, below1 _ _⟩
theorem implSub_numberSubscript (ai ap an ac al : Option Addr) (ni ci np cp nn cn nc cc nl cl : Nat) (code env : Int) (w : World) : Calls Tryz.prog 62 #[.agg #[.int .i64 2, .slice ai ni ci, .slice ap np cp, .slice an nn cn, .slice ac nc cc, .slice al nl cl, .int .i64 code, .int .i64 env]] w fun e w' => e = .returned (.iface 89 (.slice ai ni ci)) ∧ Below w.heap.size w w' := by
  go_enter Tryz.func62, Tryz.ntmps62
  go_wp2
  go_ret
  exact ⟨rfl, below1 _ _⟩
theorem implSub_textSubscript (ai ap an ac al : Option Addr) (ni ci np cp nn cn nc cc nl cl : Nat) (code env : Int) (w : World) : Calls Tryz.prog 62 #[.agg #[.int .i64 3, .slice ai ni ci, .slice ap np cp, .slice an nn cn, .slice ac nc cc, .slice al nl cl, .int .i64 code, .int .i64 env]] w fun e w' => e = .returned (.iface 90 (.slice ai ni ci)) ∧ Below w.heap.size w w' := by
  go_enter Tryz.func62, Tryz.ntmps62
  go_wp2
  go_ret
  exact ⟨rfl, below1 _ _⟩
theorem implSub_unsuitedSubscript (kk : Int) (ai ap an ac al : Option Addr) (ni ci np cp nn cn nc cc nl cl : Nat) (code env : Int) (w : World) (h : 4 ≤ kk) : Calls Tryz.prog 62 #[.agg #[.int .i64 kk, .slice ai ni ci, .slice ap np cp, .slice an nn cn, .slice ac nc cc, .slice al nl cl, .int .i64 code, .int .i64 env]] w fun e w' => e = .returned (.iface 91 (.agg #[])) ∧ Below w.heap.size w w' := by
  have h0 : (kk == 0) = false := beq_eq_false_iff_ne.2 (by omega)
  have h1 : (kk == 1) = false := beq_eq_false_iff_ne.2 (by omega)
  have h2 : (kk == 2) = false := beq_eq_false_iff_ne.2 (by omega)
  have h3 : (kk == 3) = false := beq_eq_false_iff_ne.2 (by omega)
  go_enter Tryz.func62, Tryz.ntmps62
  go_wp2
  go_ret
  exact ⟨rfl, below1 _ _⟩
theorem meth_emptySubscript (w : World) : (method 233 87 (.agg #[]) "loop.example/g03406/impl.selectIn").run Tryz.prog w = .ok (105, (.agg #[])) w := by kernel_rfl
theorem meth_logicalSubscript (a : Option Addr) (n c : Nat) (w : World) : (method 233 88 (.slice a n c) "loop.example/g03406/impl.selectIn").run Tryz.prog w = .ok (106, (.slice a n c)) w := by kernel_rfl
theorem meth_numberSubscript (a : Option Addr) (n c : Nat) (w : World) : (method 233 89 (.slice a n c) "loop.example/g03406/impl.selectIn").run Tryz.prog w = .ok (109, (.slice a n c)) w := by kernel_rfl
theorem meth_textSubscript (a : Option Addr) (n c : Nat) (w : World) : (method 233 90 (.slice a n c) "loop.example/g03406/impl.selectIn").run Tryz.prog w = .ok (124, (.slice a n c)) w := by kernel_rfl
theorem meth_unsuitedSubscript (w : World) : (method 233 91 (.agg #[]) "loop.example/g03406/impl.selectIn").run Tryz.prog w = .ok (125, (.agg #[])) w := by kernel_rfl
theorem implEmptySub (n : Int) (v : Value) (w : World) : Calls Tryz.prog 105 #[.agg #[], .int .i64 n, v] w (ResZ [] ⟨#[]⟩ w) := by
  go_enter Tryz.func105, Tryz.ntmps105
  go_wp2
  go_ret2
  exact resZ_nil rfl (below1 _ _)
theorem implUnsuitedSub (n : Int) (v : Value) (w : World) : Calls Tryz.prog 125 #[.agg #[], .int .i64 n, v] w (ResZ [] invB w) := by
  go_enter Tryz.func125, Tryz.ntmps125
  go_wp2
  go_ret2
  exact resZ_nil rfl (below1 _ _)
set_option maxHeartbeats 4000000 in
theorem implResolve (d : Nat) (v : Vec) (val : Value) (n : Int) (nms : List ByteArray) (na : Option Addr) (nc lo hi lo2 hi2 : Nat) (w : World) (hv : VecAt lo hi w d v val) (hhi : hi ≤ w.heap.size) (hsm : Small d v) (hT : TextsAt lo2 hi2 w na nms) (hh2 : hi2 ≤ w.heap.size) (ln2 : nms.length ≤ 1048576) :
    Calls Tryz.prog 51 #[.int .i64 n, .slice na nms.length nc, val] w (ResZ (rsZ n nms v) (rsS n nms v) w) := by
  have C1 := Lib.hid (fun (w1 : World) (hb : Below w.heap.size w w1) => implIsVector d v val lo hi w1 (hv.below hb hhi) (Nat.le_trans hhi hb.size) hsm)
  obtain ⟨VV, hVV⟩ : ∃ V, v = V := ⟨_, rfl⟩
  rw [hVV] at C1 ⊢
  obtain ⟨kk, items, parts, names, cls, levels, code, env⟩ := v
  obtain ⟨d', ai, ci, ap, cp, an, cn, ac, cc, al, cl, ed, rfl, hI, hN, hC, hL, hP⟩ := vecAt_open hv
  subst ed
  have XY := Lib.hid (fun (h : ValidV VV) (h2 : NmOk n nms) => (by rw [← hVV] at h ⊢; exact rs_yes h h2 : rsZ n nms VV = rkZ kk items nms n.toNat ∧ rsS n nms VV = rkS kk items))
  have XF := Lib.hid (fun (h : ValidV VV) => (by rw [← hVV] at h; exact h.1.flat : FlatOk kk items parts.length names cls levels code env))
  have HI := Lib.hid (fun (W : World) (hb : Below w.heap.size w W) => hI.below hb hhi)
  have HT := Lib.hid (fun (W : World) (hb : Below w.heap.size w W) => hT.below hb hh2)
  clear hv hI hN hC hL hP hsm hVV hT
  go_enter Tryz.func51, Tryz.ntmps51
  go_wp2_with fail
  obtain ⟨w1, hw1⟩ : ∃ W, w.alloc (.cells #[.int .i64 kk, .slice ai items.length ci, .slice ap parts.length cp, .slice an names.length cn, .slice ac cls.length cc, .slice al levels.length cl, .int .i64 code, .int .i64 env] 31) = W := ⟨_, rfl⟩
  have B1 := Lib.hid (show Below w.heap.size w w1 from hw1 ▸ below1 w _)
  have KA := Lib.hid (show w1.heap[w.heap.size]? = some (.cells #[.int .i64 kk, .slice ai items.length ci, .slice ap parts.length cp, .slice an names.length cn, .slice ac cls.length cc, .slice al levels.length cl, .int .i64 code, .int .i64 env] 31 (0, 0)) from hw1 ▸ blk_new w _ rfl)
  rw [hw1]
  clear hw1
  with_reducible refine (C1.out _ B1.out).mono ?_
  rintro e w2 ⟨rfl, b⟩
  have B2 := Lib.hid (below_then B1.out b)
  have KA := Lib.hid (blk_below b KA.out)
  clear b C1
  by_cases q : ValidV VV
  · rw [bB_yes q]
    by_cases h2 : NmOk n nms
    · have hF := XF.out q
      have hk := hF.h_kind
      have hlen := hF.h_len
      have hit := hF.h_items
      have hnull := hF.h_null
      obtain ⟨x1, x2⟩ := XY.out q h2
      have X1 := Lib.hid x1
      have X2 := Lib.hid x2
      obtain ⟨n0, n40, hnm⟩ := h2
      obtain ⟨N, rfl⟩ : ∃ N : Nat, n = N := ⟨n.toNat, by omega⟩
      have hNN : (N : Int).toNat = N := rfl
      rw [hNN] at X1
      have hl40 : ¬ kk = 5 → items.length ≤ 40 := fun h => by unfold lenV at hlen; rw [if_neg h] at hlen; omega
      have HIT := Lib.hid hit
      clear q x1 x2 hF XF XY hlen hit hNN
      obtain ⟨k0, k1, k2, k3, k4, k5, k6, k7⟩ := vec8 KA.out
      have hnm' : nms.length = 0 ∨ nms.length = N := by omega
      have ht1 : ¬ ((N : Int) < 0) := by omega
      have ht2 : ¬ (40 < (N : Int)) := by omega
      have TXT := Lib.hid (fun (h3 : kk = 3) (W : World) (hb : Below w.heap.size w W) => implTxtSub items nms ai na ci nc lo hi lo2 hi2 N W (HI.out W hb) (Nat.le_trans hhi hb.size) (HT.out W hb) (Nat.le_trans hh2 hb.size) (hl40 (by omega)) (by omega) hnm' (fun i hi => by have := (HIT.out i hi).1; rw [h3] at this; exact this))
      have NUM := Lib.hid (fun (h3 : kk = 2) (x : Value) (W : World) (hb : Below w.heap.size w W) => implNumSub items ai ci lo hi N x W (HI.out W hb) (Nat.le_trans hhi hb.size) (by have := hl40 (by omega); omega) (by omega) (fun i hi => numIt_of (HIT.out i hi).1 (by omega)))
      have LGC := Lib.hid (fun (h3 : kk = 1) (x : Value) (W : World) (hb : Below w.heap.size w W) => implLgcSub items ai ci lo hi N x W (HI.out W hb) (Nat.le_trans hhi hb.size) (hl40 (by omega)) (by omega) (fun i hi => numIt_of (HIT.out i hi).1 (by omega)))
      obtain ⟨ln, hln⟩ : ∃ x, nms.length = x := ⟨_, rfl⟩
      rw [hln] at hnm' TXT ⊢
      obtain ⟨ni, hni⟩ : ∃ x, items.length = x := ⟨_, rfl⟩
      rw [hni] at k1 TXT NUM LGC
      have KA := Lib.hid (hni ▸ KA.out)
      clear HI HT HIT hl40 hln ln2 hni
      have hlen : ln = 0 ∨ ln ≠ 0 ∧ ln = N := by omega
      rcases hlen with rfl | ⟨hne0, rfl⟩
      · have hkk : kk = 0 ∨ kk = 1 ∨ kk = 2 ∨ kk = 3 ∨ 4 ≤ kk := by omega
        rcases hkk with rfl | rfl | rfl | rfl | hk4
        · have X1 := Lib.hid (X1.out.trans rk_null.1)
          have X2 := Lib.hid (X2.out.trans (rk_null (names := []) (n := 0)).2)
          clear TXT NUM LGC
          have hm := fun w => meth_emptySubscript w
          go_wp2_with fail
          refine (implSub_emptySubscript ai ap an ac al _ ci _ cp _ cn _ cc _ cl code env _).mono ?_
          rintro e w3 ⟨rfl, b⟩
          have B3 := Lib.hid (below_then B2.out b)
          clear b k0 k1 k2 k3 k4 k5 k6 k7
          go_wp2_with fail
          refine (implEmptySub _ _ _).mono ?_
          rintro e w4 ⟨v, rfl, hz⟩
          have HZ := Lib.hid (hz.wide B3.out)
          clear hz hm
          go_wp2
          go_ret2
          exact ⟨_, by rw [X2.out]; rfl, by rw [X1.out]; exact HZ.out⟩
        · have X1 := Lib.hid (X1.out.trans rk_lgc.1)
          have X2 := Lib.hid (X2.out.trans (rk_lgc (names := []) (n := 0)).2)
          clear TXT NUM
          have hm := fun w => meth_logicalSubscript ai ni ci w
          go_wp2_with fail
          refine (implSub_logicalSubscript ai ap an ac al _ ci _ cp _ cn _ cc _ cl code env _).mono ?_
          rintro e w3 ⟨rfl, b⟩
          have B3 := Lib.hid (below_then B2.out b)
          clear b k0 k1 k2 k3 k4 k5 k6 k7
          go_wp2_with fail
          refine (LGC.out (by first | trivial | rfl) _ _ B3.out).mono ?_
          rintro e w4 ⟨v, rfl, hz⟩
          have HZ := Lib.hid (hz.wide B3.out)
          clear hz hm
          go_wp2
          go_ret2
          exact ⟨_, by rw [X2.out]; rfl, by rw [X1.out]; exact HZ.out⟩
        · have X1 := Lib.hid (X1.out.trans rk_num.1)
          have X2 := Lib.hid (X2.out.trans (rk_num (names := []) (n := 0)).2)
          clear TXT LGC
          have hm := fun w => meth_numberSubscript ai ni ci w
          go_wp2_with fail
          refine (implSub_numberSubscript ai ap an ac al _ ci _ cp _ cn _ cc _ cl code env _).mono ?_
          rintro e w3 ⟨rfl, b⟩
          have B3 := Lib.hid (below_then B2.out b)
          clear b k0 k1 k2 k3 k4 k5 k6 k7
          go_wp2_with fail
          refine (NUM.out (by first | trivial | rfl) _ _ B3.out).mono ?_
          rintro e w4 ⟨v, rfl, hz⟩
          have HZ := Lib.hid (hz.wide B3.out)
          clear hz hm
          go_wp2
          go_ret2
          exact ⟨_, by rw [X2.out]; rfl, by rw [X1.out]; exact HZ.out⟩
        · have X1 := Lib.hid (X1.out.trans rk_txt.1)
          have X2 := Lib.hid (X2.out.trans (rk_txt (names := []) (n := 0)).2)
          clear NUM LGC
          have hm := fun w => meth_textSubscript ai ni ci w
          go_wp2_with fail
          refine (implSub_textSubscript ai ap an ac al _ ci _ cp _ cn _ cc _ cl code env _).mono ?_
          rintro e w3 ⟨rfl, b⟩
          have B3 := Lib.hid (below_then B2.out b)
          clear b k0 k1 k2 k3 k4 k5 k6 k7
          go_wp2_with fail
          refine (TXT.out (by first | trivial | rfl) _ B3.out).mono ?_
          rintro e w4 ⟨v, rfl, hz⟩
          have HZ := Lib.hid (hz.wide B3.out)
          clear hz hm
          go_wp2
          go_ret2
          exact ⟨_, by rw [X2.out]; rfl, by rw [X1.out]; exact HZ.out⟩
        · have X1 := Lib.hid (X1.out.trans (rk_list hk4).1)
          have X2 := Lib.hid (X2.out.trans (rk_list hk4 (names := []) (n := 0)).2)
          clear NUM LGC TXT
          have hm := fun w => meth_unsuitedSubscript w
          go_wp2_with fail
          refine (implSub_unsuitedSubscript kk ai ap an ac al _ ci _ cp _ cn _ cc _ cl code env _ hk4).mono ?_
          rintro e w3 ⟨rfl, b⟩
          have B3 := Lib.hid (below_then B2.out b)
          clear b k0 k1 k2 k3 k4 k5 k6 k7
          go_wp2_with fail
          refine (implUnsuitedSub _ _ _).mono ?_
          rintro e w4 ⟨v, rfl, hz⟩
          have HZ := Lib.hid (hz.wide B3.out)
          clear hz hm
          go_wp2
          go_ret2
          exact ⟨_, by rw [X2.out]; rfl, by rw [X1.out]; exact HZ.out⟩
      · have hkk : kk = 0 ∨ kk = 1 ∨ kk = 2 ∨ kk = 3 ∨ 4 ≤ kk := by omega
        rcases hkk with rfl | rfl | rfl | rfl | hk4
        · have X1 := Lib.hid (X1.out.trans rk_null.1)
          have X2 := Lib.hid (X2.out.trans (rk_null (names := []) (n := 0)).2)
          clear TXT NUM LGC
          have hm := fun w => meth_emptySubscript w
          go_wp2_with fail
          refine (implSub_emptySubscript ai ap an ac al _ ci _ cp _ cn _ cc _ cl code env _).mono ?_
          rintro e w3 ⟨rfl, b⟩
          have B3 := Lib.hid (below_then B2.out b)
          clear b k0 k1 k2 k3 k4 k5 k6 k7
          go_wp2_with fail
          refine (implEmptySub _ _ _).mono ?_
          rintro e w4 ⟨v, rfl, hz⟩
          have HZ := Lib.hid (hz.wide B3.out)
          clear hz hm
          go_wp2
          go_ret2
          exact ⟨_, by rw [X2.out]; rfl, by rw [X1.out]; exact HZ.out⟩
        · have X1 := Lib.hid (X1.out.trans rk_lgc.1)
          have X2 := Lib.hid (X2.out.trans (rk_lgc (names := []) (n := 0)).2)
          clear TXT NUM
          have hm := fun w => meth_logicalSubscript ai ni ci w
          go_wp2_with fail
          refine (implSub_logicalSubscript ai ap an ac al _ ci _ cp _ cn _ cc _ cl code env _).mono ?_
          rintro e w3 ⟨rfl, b⟩
          have B3 := Lib.hid (below_then B2.out b)
          clear b k0 k1 k2 k3 k4 k5 k6 k7
          go_wp2_with fail
          refine (LGC.out (by first | trivial | rfl) _ _ B3.out).mono ?_
          rintro e w4 ⟨v, rfl, hz⟩
          have HZ := Lib.hid (hz.wide B3.out)
          clear hz hm
          go_wp2
          go_ret2
          exact ⟨_, by rw [X2.out]; rfl, by rw [X1.out]; exact HZ.out⟩
        · have X1 := Lib.hid (X1.out.trans rk_num.1)
          have X2 := Lib.hid (X2.out.trans (rk_num (names := []) (n := 0)).2)
          clear TXT LGC
          have hm := fun w => meth_numberSubscript ai ni ci w
          go_wp2_with fail
          refine (implSub_numberSubscript ai ap an ac al _ ci _ cp _ cn _ cc _ cl code env _).mono ?_
          rintro e w3 ⟨rfl, b⟩
          have B3 := Lib.hid (below_then B2.out b)
          clear b k0 k1 k2 k3 k4 k5 k6 k7
          go_wp2_with fail
          refine (NUM.out (by first | trivial | rfl) _ _ B3.out).mono ?_
          rintro e w4 ⟨v, rfl, hz⟩
          have HZ := Lib.hid (hz.wide B3.out)
          clear hz hm
          go_wp2
          go_ret2
          exact ⟨_, by rw [X2.out]; rfl, by rw [X1.out]; exact HZ.out⟩
        · have X1 := Lib.hid (X1.out.trans rk_txt.1)
          have X2 := Lib.hid (X2.out.trans (rk_txt (names := []) (n := 0)).2)
          clear NUM LGC
          have hm := fun w => meth_textSubscript ai ni ci w
          go_wp2_with fail
          refine (implSub_textSubscript ai ap an ac al _ ci _ cp _ cn _ cc _ cl code env _).mono ?_
          rintro e w3 ⟨rfl, b⟩
          have B3 := Lib.hid (below_then B2.out b)
          clear b k0 k1 k2 k3 k4 k5 k6 k7
          go_wp2_with fail
          refine (TXT.out (by first | trivial | rfl) _ B3.out).mono ?_
          rintro e w4 ⟨v, rfl, hz⟩
          have HZ := Lib.hid (hz.wide B3.out)
          clear hz hm
          go_wp2
          go_ret2
          exact ⟨_, by rw [X2.out]; rfl, by rw [X1.out]; exact HZ.out⟩
        · have X1 := Lib.hid (X1.out.trans (rk_list hk4).1)
          have X2 := Lib.hid (X2.out.trans (rk_list hk4 (names := []) (n := 0)).2)
          clear NUM LGC TXT
          have hm := fun w => meth_unsuitedSubscript w
          go_wp2_with fail
          refine (implSub_unsuitedSubscript kk ai ap an ac al _ ci _ cp _ cn _ cc _ cl code env _ hk4).mono ?_
          rintro e w3 ⟨rfl, b⟩
          have B3 := Lib.hid (below_then B2.out b)
          clear b k0 k1 k2 k3 k4 k5 k6 k7
          go_wp2_with fail
          refine (implUnsuitedSub _ _ _).mono ?_
          rintro e w4 ⟨v, rfl, hz⟩
          have HZ := Lib.hid (hz.wide B3.out)
          clear hz hm
          go_wp2
          go_ret2
          exact ⟨_, by rw [X2.out]; rfl, by rw [X1.out]; exact HZ.out⟩
    · have XX := Lib.hid (rs_names q h2)
      obtain ⟨ln, hln⟩ : ∃ x, nms.length = x := ⟨_, rfl⟩
      have hno : ¬ (0 ≤ n ∧ n ≤ 40 ∧ (ln = 0 ∨ (ln : Int) = n)) := by rw [← hln]; exact h2
      rw [hln]
      clear q XY XF HI HT h2 hln ln2
      have hcase : n < 0 ∨ (¬ n < 0 ∧ 40 < n) ∨ (¬ n < 0 ∧ ¬ 40 < n ∧ 0 < ln ∧ ¬ (ln : Int) = n) := by omega
      rcases hcase with h0 | ⟨h0, h1⟩ | ⟨h0, h1, h3, h4⟩
      · clear hno
        go_wp2
        go_ret2
        rw [XX.out.2]
        exact resZ_nil XX.out.1 B2.out
      · clear hno
        go_wp2
        go_ret2
        rw [XX.out.2]
        exact resZ_nil XX.out.1 B2.out
      · have h3' : (0 : Int) < (ln : Int) := by omega
        have h4' : ((ln : Int) != n) = true := bne_iff_ne.2 h4
        clear hno
        go_wp2
        go_ret2
        rw [XX.out.2]
        exact resZ_nil XX.out.1 B2.out
  · rw [bB_no q]
    have XX := Lib.hid (rs_bad (n := n) (names := nms) q)
    clear q XY XF
    go_wp2
    go_ret2
    rw [XX.out.2]
    exact resZ_nil XX.out.1 B2.out
end Go.Proofs.YtpekdmocgjjhnaaGreat

/- Laws on two vectors: what a region that calls on both keeps. -/
namespace Go.Proofs.YtpekdmocgjjhnaaGreat
set_option maxRecDepth 100000
open Go.RowKit
set_option linter.unusedVariables false

/-- A vector that may be read. -/
structure VatH (d : Nat) (v : Vec) (y : Value) (w : World) : Prop where
  out : VecAt 0 w.heap.size w d v y
theorem VatH.keep {d : Nat} {v : Vec} {y : Value} {w w1 : World} (h : VatH d v y w) (hb : Below w.heap.size w w1) : VatH d v y w1 := ⟨VecAt.wide (Nat.le_refl _) hb.size _ _ _ (h.out.below hb (Nat.le_refl _))⟩
theorem ResV.vatH {d : Nat} {v : Vec} {y : Value} {lo : Nat} {w : World} (h : Own d v y lo w.heap.size w) : VatH d v y w := ⟨h.vat (Nat.le_refl _)⟩
/-- A vector of one's own in a range, kept. -/
structure OwnH (d : Nat) (V : Vec) (y : Value) (lo hi : Nat) (w : World) : Prop where
  own : Own d V y lo hi w
  hh : hi ≤ w.heap.size
theorem OwnH.keep {d : Nat} {V : Vec} {y : Value} {lo hi : Nat} {w w1 : World} (h : OwnH d V y lo hi w) (hb : Below w.heap.size w w1) : OwnH d V y lo hi w1 := ⟨h.own.below hb h.hh, Nat.le_trans h.hh hb.size⟩
theorem Own.rowO {d : Nat} {V : Vec} {y : Value} {lo hi g : Nat} {c : Array Value} {w : World} (h : Own d V y lo hi w) (hg : g < lo ∨ hi ≤ g) : Own d V y lo hi (w.setRow g c) := by
  obtain ⟨F, q1, q2, q3⟩ := h.out
  exact ⟨F, q1.kept _ _ _ _ (fun b hb => row_old rfl (by have := q3 b hb; omega)), q2, q3⟩
/-- A vector that was made and put into a variable of its own. -/
structure MadeU (V : Vec) (wk wx : World) (g : Nat) (C : Array Value) : Prop where
  blk : wx.heap[g]? = some (.cells C 31 (0, 0))
  own : Own 1 V (.agg C) wk.heap.size wx.heap.size wx
  below : Below wk.heap.size wk wx
  lo : wk.heap.size ≤ g
theorem MadeU.cells {V : Vec} {wk wx : World} {g : Nat} {C : Array Value} (h : MadeU V wk wx g C) : ∃ (k : Int) (a1 : Option Addr) (n1 m1 : Nat) (a2 : Option Addr) (n2 m2 : Nat) (a3 : Option Addr) (n3 m3 : Nat) (a4 : Option Addr) (n4 m4 : Nat) (a5 : Option Addr) (n5 m5 : Nat) (code env : Int), C = #[.int .i64 k, .slice a1 n1 m1, .slice a2 n2 m2, .slice a3 n3 m3, .slice a4 n4 m4, .slice a5 n5 m5, .int .i64 code, .int .i64 env] := by
  obtain ⟨k, a1, n1, m1, a2, n2, m2, a3, n3, m3, a4, n4, m4, a5, n5, m5, c, e, h'⟩ := h.own.agg
  simp only [Value.agg.injEq] at h'
  exact ⟨k, a1, n1, m1, a2, n2, m2, a3, n3, m3, a4, n4, m4, a5, n5, m5, c, e, h'⟩
section
variable {P : Program} {ops : Array Oper} {Q : Exit → Act → World → Prop} {S : World → Prop}
variable {r : List (Nat × Bool)} {a : Act} {e : List (Nat × Value)} {w : World} {i d : Nat} {g : Option (Nat × Bool)} {v : Value}
/-- A part of a call's several results. -/
theorem run_extract {x : Operand} {k : Nat} {vs : Array Value} (ho : opAt ops i = some (some d, .extract x k, g)) (hd : Nat.blt d a.tmps.size = true) (hw : wantE ops a e g = some true)
    (hx : lookO a e x = .tuple vs) (hv : vs[k]? = some v) (h : RunE P ops Q S r a ((d, v) :: e) w) : RunE P ops Q S ((i, true) :: r) a e w :=
  run_yield ho hd hw (fun o w' h1 _ => by
    unfold execOp; rw [h1]; simp only [hx]
    refine run_v ?_
    unfold Instr.extract
    simp only [hv]
    rfl) h
end
/-- A mark that goes on from k. -/
theorem markOwnK (d : Nat) (V : Vec) (y : Value) (k : Nat) (lo hi : Nat) (w : World) (h : Own d V y lo hi w) (hh : hi ≤ w.heap.size) (hs : Small d V) (hk : 1 ≤ k) (hc : k + cntM d V ≤ 8000000) :
    Calls Tryz.prog 10 #[y, .int .i64 k] w fun e w' => e = .returned (.int .i64 ((k + cntM d V : Nat) : Int)) ∧ Within lo hi w w' := by
  obtain ⟨F, h1, h2, h3⟩ := h.out
  refine (markVec d V y k F w h1 h2 (fun b hb => by have := h3 b hb; omega) hs hk hc).mono ?_
  rintro e w' ⟨rfl, ho, t⟩
  exact ⟨rfl, t.within h3⟩
end Go.Proofs.YtpekdmocgjjhnaaGreat

/- resolveIn, elementAt: the program. -/
namespace Go.Proofs.YtpekdmocgjjhnaaGreat
open Go.RowKit
set_option maxRecDepth 100000
set_option linter.unusedVariables false

theorem implLenW (d : Nat) (v : Vec) (val : Value) (lo hi : Nat) (w : World) (hv : VecAt lo hi w d v val) (hsm : Small d v) :
    Calls Tryz.prog 40 #[val] w fun e w' => e = .returned (.int .i64 ((lengthV v : Nat) : Int)) ∧ Below w.heap.size w w' := by
  obtain ⟨k, items, parts, names, cls, levels, code, env⟩ := v
  obtain ⟨d', ai, ci, ap, cp, an, cn, ac, cc, al, cl, ed, rfl, _⟩ := vecAt_open hv
  subst ed
  exact implLen k ai ap an ac al items.length ci parts.length cp names.length cn cls.length cc levels.length cl code env w hsm.1 hsm.2.1
set_option maxHeartbeats 4000000 in
theorem implResolveIn (d d2 : Nat) (v s : Vec) (val vals : Value) (lo hi : Nat) (w : World) (hv : VecAt lo hi w d v val) (hs : VecAt lo hi w d2 s vals) (hhi : hi ≤ w.heap.size) (hsm : Small d v) (hsm2 : Small d2 s) :
    Calls Tryz.prog 26 #[val, vals] w (ResZ (rvZ v s) (rvS v s) w) := by
  have C1 := Lib.hid (fun (w1 : World) (hb : Below w.heap.size w w1) => implIsVector d v val lo hi w1 (hv.below hb hhi) (Nat.le_trans hhi hb.size) hsm)
  have LN := Lib.hid (fun (W : World) (hb : Below w.heap.size w W) => implLenW d v val lo hi W (hv.below hb hhi) hsm)
  obtain ⟨VV, hVV⟩ : ∃ V, v = V := ⟨_, rfl⟩
  rw [hVV] at C1 LN ⊢
  obtain ⟨kk, items, parts, names, cls, levels, code, env⟩ := v
  obtain ⟨d', ai, ci, ap, cp, an, cn, ac, cc, al, cl, ed, rfl, hI, hN, hC, hL, hP⟩ := vecAt_open hv
  subst ed
  have XK : kindV VV = kk := by rw [← hVV]; rfl
  have XM : namV VV = names := by rw [← hVV]; rfl
  have ln : names.length ≤ 1048576 := hsm.2.2.1
  have CR := Lib.hid (fun (W : World) (hb : Below w.heap.size w W) => implResolve d2 s vals (lengthV VV : Int) names an cn lo hi lo hi W (hs.below hb hhi) (Nat.le_trans hhi hb.size) hsm2 (hN.below hb hhi) (Nat.le_trans hhi hb.size) ln)
  have RV := Lib.hid (fun h h5 => (by have := rv_yes (v := VV) (s := s) h h5; rw [XM] at this; exact this : rvZ VV s = rsZ (lengthV VV : Int) names s ∧ rvS VV s = rsS (lengthV VV : Int) names s))
  obtain ⟨sk, sa1, sn1, sm1, sa2, sn2, sm2, sa3, sn3, sm3, sa4, sn4, sm4, sa5, sn5, sm5, sc, se, rfl⟩ := hs.agg
  obtain ⟨L, hL'⟩ : ∃ L, lengthV VV = L := ⟨_, rfl⟩
  rw [hL'] at LN CR RV
  obtain ⟨Z, hZ⟩ : ∃ Z, rsZ (L : Int) names s = Z := ⟨_, rfl⟩
  obtain ⟨R, hR⟩ : ∃ R, rsS (L : Int) names s = R := ⟨_, rfl⟩
  rw [hZ, hR] at CR RV
  clear hv hs hI hN hC hL hP hsm hsm2 hVV hL' hZ hR ln
  go_enter Tryz.func26, Tryz.ntmps26
  go_wp2_with fail
  obtain ⟨w1, hw1⟩ : ∃ W, (w.alloc (.cells #[.int .i64 kk, .slice ai items.length ci, .slice ap parts.length cp, .slice an names.length cn, .slice ac cls.length cc, .slice al levels.length cl, .int .i64 code, .int .i64 env] 31)).alloc (.cells #[.int .i64 sk, .slice sa1 sn1 sm1, .slice sa2 sn2 sm2, .slice sa3 sn3 sm3, .slice sa4 sn4 sm4, .slice sa5 sn5 sm5, .int .i64 sc, .int .i64 se] 31) = W := ⟨_, rfl⟩
  have hsz : (w.alloc (.cells #[.int .i64 kk, .slice ai items.length ci, .slice ap parts.length cp, .slice an names.length cn, .slice ac cls.length cc, .slice al levels.length cl, .int .i64 code, .int .i64 env] 31)).heap.size = w.heap.size + 1 := by simp
  have B1 := Lib.hid (show Below w.heap.size w w1 from hw1 ▸ (below1 w _).alloc (by simp) _)
  have KA := Lib.hid (show w1.heap[w.heap.size]? = some (.cells #[.int .i64 kk, .slice ai items.length ci, .slice ap parts.length cp, .slice an names.length cn, .slice ac cls.length cc, .slice al levels.length cl, .int .i64 code, .int .i64 env] 31 (0, 0)) from hw1 ▸ blk_old (blk_new w _ rfl))
  have KB := Lib.hid (show w1.heap[w.heap.size + 1]? = some (.cells #[.int .i64 sk, .slice sa1 sn1 sm1, .slice sa2 sn2 sm2, .slice sa3 sn3 sm3, .slice sa4 sn4 sm4, .slice sa5 sn5 sm5, .int .i64 sc, .int .i64 se] 31 (0, 0)) from hw1 ▸ hsz ▸ blk_new (w.alloc (.cells #[.int .i64 kk, .slice ai items.length ci, .slice ap parts.length cp, .slice an names.length cn, .slice ac cls.length cc, .slice al levels.length cl, .int .i64 code, .int .i64 env] 31)) (.cells #[.int .i64 sk, .slice sa1 sn1 sm1, .slice sa2 sn2 sm2, .slice sa3 sn3 sm3, .slice sa4 sn4 sm4, .slice sa5 sn5 sm5, .int .i64 sc, .int .i64 se] 31) rfl)
  rw [hw1]
  clear hw1 hsz
  with_reducible refine (C1.out _ B1.out).mono ?_
  rintro e w2 ⟨rfl, b⟩
  have B2 := Lib.hid (below_then B1.out b)
  have KA := Lib.hid (blk_below b KA.out)
  have KB := Lib.hid (blk_below b KB.out)
  clear b C1
  by_cases q : ValidV VV
  · rw [bB_yes q]
    by_cases h5 : kk = 5
    · have XX := Lib.hid (rv_fun (s := s) q (XK.trans h5))
      subst h5
      clear q XK XM RV LN CR
      obtain ⟨k0, k1, k2, k3, k4, k5, k6, k7⟩ := vec8 KA.out
      go_wp2
      go_ret2
      rw [XX.out.2]
      exact resZ_nil XX.out.1 B2.out
    · have XX := Lib.hid (RV.out q (fun e => h5 (XK ▸ e)))
      have h5b : (kk == 5) = false := beq_eq_false_iff_ne.2 h5
      have LN := Lib.hid (fun (W : World) (hb : Below w2.heap.size w2 W) => LN.out W (below_then B2.out hb))
      have CR := Lib.hid (fun (W : World) (hb : Below w2.heap.size w2 W) => CR.out W (below_then B2.out hb))
      clear q XK XM RV h5
      obtain ⟨k0, k1, k2, k3, k4, k5, k6, k7⟩ := vec8 KA.out
      go_upto_region 5 with (fail)
      clear k0 k1 k2 k3 k4 k5 k6 k7
      have H := Lib.hid (show HeldC w2 w2 ([(w.heap.size, 31, #[.int .i64 kk, .slice ai items.length ci, .slice ap parts.length cp, .slice an names.length cn, .slice ac cls.length cc, .slice al levels.length cl, .int .i64 code, .int .i64 env]), (w.heap.size + 1, 31, #[.int .i64 sk, .slice sa1 sn1 sm1, .slice sa2 sn2 sm2, .slice sa3 sn3 sm3, .slice sa4 sn4 sm4, .slice sa5 sn5 sm5, .int .i64 sc, .int .i64 se])]) from heldC_two (Below.refl _ _) KA.out KB.out)
      refine run_regionT (ops := (opsOf Tryz.f26 5)) (S := fun w' => HeldC w2 w' ([(w.heap.size, 31, #[.int .i64 kk, .slice ai items.length ci, .slice ap parts.length cp, .slice an names.length cn, .slice ac cls.length cc, .slice al levels.length cl, .int .i64 code, .int .i64 env]), ((w.heap.size + 1), 31, #[.int .i64 sk, .slice sa1 sn1 sm1, .slice sa2 sn2 sm2, .slice sa3 sn3 sm3, .slice sa4 sn4 sm4, .slice sa5 sn5 sm5, .int .i64 sc, .int .i64 se])])) (.leaf [(0, true), (2, true), (3, true), (4, true), (1, false), (5, false), (6, true), (7, true), (8, true), (9, true)]) (by kernel_rfl) (by kernel_rfl) (by kernel_rfl) (by kernel_rfl) (by kernel_rfl) (fun _ _ _ _ _ h => h) (heldC_drew H.out) ?_
      have H := Lib.hid (heldC_drew H.out)
      refine runC_vec (b := w.heap.size) (show opAt (opsOf Tryz.f26 5) 0 = some (some 14, .load 31 (.tmp 2), none) from by kernel_rfl) (by kernel_rfl) (by kernel_rfl) (by kernel_rfl) (List.Mem.head _) ?_
      refine runC_partV (b := w.heap.size) (by kernel_rfl) (show opAt (opsOf Tryz.f26 5) 2 = some (some 16, .fieldAddr 31 (.tmp 2) 3, none) from by kernel_rfl) (by kernel_rfl) (by kernel_rfl) (by kernel_rfl) ?_
      refine runC_cell (b := w.heap.size) (j := 3) (v := .slice an names.length cn) load_strs (show opAt (opsOf Tryz.f26 5) 3 = some (some 17, .load 24 (.tmp 16), none) from by kernel_rfl) (by kernel_rfl) (by kernel_rfl) (by kernel_rfl) (List.Mem.head _) rfl ?_
      refine runC_vec (b := (w.heap.size + 1)) (show opAt (opsOf Tryz.f26 5) 4 = some (some 18, .load 31 (.tmp 3), none) from by kernel_rfl) (by kernel_rfl) (by kernel_rfl) (by kernel_rfl) (List.Mem.tail _ (List.Mem.head _)) ?_
      refine run_call (args := [.agg #[.int .i64 kk, .slice ai items.length ci, .slice ap parts.length cp, .slice an names.length cn, .slice ac cls.length cc, .slice al levels.length cl, .int .i64 code, .int .i64 env]]) (show opAt (opsOf Tryz.f26 5) 1 = some (some 15, .call { callee := .value (.func 40), args := [(.tmp 14)].toArray, argTypes := [31].toArray }, none) from by kernel_rfl) (by kernel_rfl) (by kernel_rfl) (by kernel_rfl) (by kernel_rfl) ?_
      refine (LN.out _ H.out.1).mono ?_
      rintro en rw1 ⟨rfl, hb⟩
      refine ⟨_, rfl, heldC_call H.out hb, ?_⟩
      have H := Lib.hid (heldC_call H.out hb)
      clear hb
      refine run_call (args := [.int .i64 ((L : Int)), .slice an names.length cn, .agg #[.int .i64 sk, .slice sa1 sn1 sm1, .slice sa2 sn2 sm2, .slice sa3 sn3 sm3, .slice sa4 sn4 sm4, .slice sa5 sn5 sm5, .int .i64 sc, .int .i64 se]]) (show opAt (opsOf Tryz.f26 5) 5 = some (some 19, .call { callee := .value (.func 51), args := [(.tmp 15), (.tmp 17), (.tmp 18)].toArray, argTypes := [3, 24, 31].toArray }, none) from by kernel_rfl) (by kernel_rfl) (by kernel_rfl) (by kernel_rfl) (by kernel_rfl) ?_
      refine (CR.out _ H.out.1).mono ?_
      rintro en rw2 ⟨v5, rfl, hz⟩
      refine ⟨_, rfl, heldC_call H.out hz.below, ?_⟩
      have BH := Lib.hid H.out.1
      have HZ := Lib.hid hz
      have H := Lib.hid (heldC_call H.out hz.below)
      clear hz
      refine run_extract (vs := #[v5, .string R]) (v := v5) (show opAt (opsOf Tryz.f26 5) 6 = some (some 20, .extract (.tmp 19) 0, none) from by kernel_rfl) (by kernel_rfl) (by kernel_rfl) (by kernel_rfl) (by rfl) ?_
      refine run_extract (vs := #[v5, .string R]) (v := .string R) (show opAt (opsOf Tryz.f26 5) 7 = some (some 21, .extract (.tmp 19) 1, none) from by kernel_rfl) (by kernel_rfl) (by kernel_rfl) (by kernel_rfl) (by rfl) ?_
      refine run_asg (v := v5) (show opAt (opsOf Tryz.f26 5) 8 = some (some 4, .assign (.tmp 20), none) from by kernel_rfl) (by kernel_rfl) (by kernel_rfl) (by kernel_rfl) ?_
      refine run_asg (v := .string R) (show opAt (opsOf Tryz.f26 5) 9 = some (some 5, .assign (.tmp 21), none) from by kernel_rfl) (by kernel_rfl) (by kernel_rfl) (by kernel_rfl) ?_
      refine run_done ?_
      simp only [putAll, Act.put, List.setIfInBounds_toArray, List.set_cons_zero, List.set_cons_succ]
      have HW := Lib.hid (HZ.out.wide (below_then B2.out BH.out))
      go_wp2
      go_ret2
      exact ⟨_, by rw [XX.out.2]; rfl, by rw [XX.out.1]; exact HW.out⟩
  · rw [bB_no q]
    have XX := Lib.hid (rv_bad (s := s) q)
    clear q XK XM RV LN CR
    go_wp2
    go_ret2
    rw [XX.out.2]
    exact resZ_nil XX.out.1 B2.out
end Go.Proofs.YtpekdmocgjjhnaaGreat

/- elementAt of atomic vectors: the program. -/
namespace Go.Proofs.YtpekdmocgjjhnaaGreat
open Go.RowKit
set_option maxRecDepth 100000
set_option linter.unusedVariables false

theorem ints_one (w W : World) (j : Nat) (t : TypeId) (h : w.alloc (.cells #[.int .i64 (j : Int)] t) = W) : IntsAt W.heap.size W (some ⟨w.heap.size, 0, none⟩) 1 (ixF [j]) := by
  intro i hi
  obtain rfl : i = 0 := by omega
  subst h
  exact ⟨w.heap.size, 0, rfl, by simp, by have := blk_new w (.cells #[.int .i64 (j : Int)] t) rfl; unfold World.cell?; show (match (w.alloc (.cells #[.int .i64 (j : Int)] t)).heap[w.heap.size]? with | some (.cells c _ _) => c[0 + 0]? | _ => none) = _; rw [this]; rfl⟩
set_option maxHeartbeats 4000000 in
theorem implElemA (d : Nat) (kk : Int) (items : List It) (parts : List Vec) (names cls levels : List ByteArray) (code env : Int) (ai ap an ac al : Option Addr) (ci cp cn cc cl lo hi : Nat) (w : World) (hI : ItemsAt lo hi w ai items) (hP : VecsAt lo hi w d ap parts) (hN : TextsAt lo hi w an names) (hC : TextsAt lo hi w ac cls) (hL : TextsAt lo hi w al levels) (hhi : hi ≤ w.heap.size)
    (hsm : Small (d + 1) (.mk kk items parts names cls levels code env)) (hv : ValidV (.mk kk items parts names cls levels code env)) (h4 : ¬ kk = 4) (h5 : ¬ kk = 5) (j : Nat) (hj : j < items.length + parts.length) :
    Calls Tryz.prog 42 #[.agg #[.int .i64 kk, .slice ai items.length ci, .slice ap parts.length cp, .slice an names.length cn, .slice ac cls.length cc, .slice al levels.length cl, .int .i64 code, .int .i64 env], .int .i64 (j : Int)] w (ResV (d + 1) (elmV (.mk kk items parts names cls levels code env) j) w) := by
  have hf : FlatOk kk items parts.length names cls levels code env := hv.1.flat
  have hnm : names.length ≠ 0 → names.length = items.length + parts.length := fun h => by
    rcases hf.h_names with e | e
    · exact absurd e h
    · unfold lenV at e; rw [if_neg h5] at e; exact e
  have lp0 := hf.h_noParts h4
  obtain ⟨li, lp, ln, lc, ll, _, _, _, _, hsp⟩ := hsm
  have CS := Lib.hid (fun (xi : Option Addr) (xc : Nat) (W : World) (hb : Below w.heap.size w W) (hs : IntsAt W.heap.size W xi 1 (ixF [j])) =>
    implSelect d kk items parts names cls levels code env ai ap an ac al xi ci cp cn cc cl xc lo hi W.heap.size [j] W (hI.below hb hhi) (hP.below hb hhi) (hN.below hb hhi) (hC.below hb hhi) (hL.below hb hhi) (Nat.le_trans hhi hb.size) li lp ln lc ll hsp hs (Nat.le_refl _) (by show 1 ≤ 1048576; decide)
      (fun _ i hi => by have hi : i < 1 := hi; obtain rfl : i = 0 := (by omega); show j < _; omega) (fun h0 => absurd lp0 h0)
      (fun h0 i hi => by have hi : i < 1 := hi; obtain rfl : i = 0 := (by omega); show j < _; have := hnm h0; omega))
  have XE : elmV (.mk kk items parts names cls levels code env) j = .mk kk (pkL noI items [j]) (pkL noV parts [j]) [] (kpC levels cls) levels 0 0 := elm_atom h4
  rw [XE]
  have h4b : (kk == 4) = false := beq_eq_false_iff_ne.2 h4
  clear hI hP hN hC hL hhi hv hf hnm hsp XE h4 h5 hj lp0 li lp ln lc ll
  go_enter Tryz.func42, Tryz.ntmps42
  go_upto_region 4 with (fail)
  obtain ⟨w1, hw1⟩ : ∃ W, (w.alloc (.cells #[.int .i64 kk, .slice ai items.length ci, .slice ap parts.length cp, .slice an names.length cn, .slice ac cls.length cc, .slice al levels.length cl, .int .i64 code, .int .i64 env] 31)).alloc (.cells #[.int .i64 0, .slice none 0 0, .slice none 0 0, .slice none 0 0, .slice none 0 0, .slice none 0 0, .int .i64 0, .int .i64 0] 31) = W := ⟨_, rfl⟩
  have hsz : (w.alloc (.cells #[.int .i64 kk, .slice ai items.length ci, .slice ap parts.length cp, .slice an names.length cn, .slice ac cls.length cc, .slice al levels.length cl, .int .i64 code, .int .i64 env] 31)).heap.size = w.heap.size + 1 := by simp
  have B1 := Lib.hid (show Below w.heap.size w w1 from hw1 ▸ (below1 w _).alloc (by simp) _)
  have KA := Lib.hid (show w1.heap[w.heap.size]? = some (.cells #[.int .i64 kk, .slice ai items.length ci, .slice ap parts.length cp, .slice an names.length cn, .slice ac cls.length cc, .slice al levels.length cl, .int .i64 code, .int .i64 env] 31 (0, 0)) from hw1 ▸ blk_old (blk_new w _ rfl))
  have KR := Lib.hid (show w1.heap[w.heap.size + 1]? = some (.cells #[.int .i64 0, .slice none 0 0, .slice none 0 0, .slice none 0 0, .slice none 0 0, .slice none 0 0, .int .i64 0, .int .i64 0] 31 (0, 0)) from hw1 ▸ hsz ▸ blk_new (w.alloc (.cells #[.int .i64 kk, .slice ai items.length ci, .slice ap parts.length cp, .slice an names.length cn, .slice ac cls.length cc, .slice al levels.length cl, .int .i64 code, .int .i64 env] 31)) (.cells #[.int .i64 0, .slice none 0 0, .slice none 0 0, .slice none 0 0, .slice none 0 0, .slice none 0 0, .int .i64 0, .int .i64 0] 31) rfl)
  rw [hw1]
  have Z1 := Lib.hid (show w1.heap.size = w.heap.size + 1 + 1 from hw1 ▸ (by simp))
  clear hw1 hsz
  obtain ⟨k0, k1, k2, k3, k4, k5, k6, k7⟩ := vec8 KA.out
  go_wp2_with fail
  have hsz1 : w1.heap.size = w.heap.size + 1 + 1 := Z1.out
  obtain ⟨w2, hw2⟩ : ∃ W, w1.alloc (.cells #[.int .i64 (j : Int)] 3) = W := ⟨_, rfl⟩
  have HI := Lib.hid (by have := ints_one _ _ _ _ hw2; rw [hsz1] at this; exact this : IntsAt w2.heap.size w2 (some ⟨w.heap.size + 1 + 1, 0, none⟩) 1 (ixF [j]))
  have b2 : Below w1.heap.size w1 w2 := hw2 ▸ below1 w1 _
  have B2 := Lib.hid (below_then B1.out b2)
  have KR := Lib.hid (blk_below b2 KR.out)
  rw [hw2]
  clear hw2 b2 k0 k1 k2 k3 k4 k5 k6 k7
  refine (CS.out _ _ _ B2.out HI.out).mono ?_
  rintro e w3 ⟨y, rfl, ho, hb⟩
  obtain ⟨yk, ya1, yn1, ym1, ya2, yn2, ym2, ya3, yn3, ym3, ya4, yn4, ym4, ya5, yn5, ym5, yc, ye, rfl⟩ := ho.agg
  have hr5 := (Array.getElem?_eq_some_iff.1 KR.out).1
  have B3 := Lib.hid (below_then B2.out hb)
  have KR := Lib.hid (blk_below hb KR.out)
  have B4 := Lib.hid (B3.out.alloc (Nat.le_trans B3.out.size (Nat.le_refl _)) (.cells #[.int .i64 yk, .slice ya1 yn1 ym1, .slice ya2 yn2 ym2, .slice none 0 0, .slice ya4 yn4 ym4, .slice ya5 yn5 ym5, .int .i64 yc, .int .i64 ye] 31))
  have KR := Lib.hid (blk_below (below1 w3 (.cells #[.int .i64 yk, .slice ya1 yn1 ym1, .slice ya2 yn2 ym2, .slice none 0 0, .slice ya4 yn4 ym4, .slice ya5 yn5 ym5, .int .i64 yc, .int .i64 ye] 31)) KR.out)
  have HO := Lib.hid ((ho.noNames none 0).below (below1 w3 (.cells #[.int .i64 yk, .slice ya1 yn1 ym1, .slice ya2 yn2 ym2, .slice none 0 0, .slice ya4 yn4 ym4, .slice ya5 yn5 ym5, .int .i64 yc, .int .i64 ye] 31)) (Nat.le_refl _))
  have S4 := Lib.hid (show w3.heap.size ≤ (w3.alloc (.cells #[.int .i64 yk, .slice ya1 yn1 ym1, .slice ya2 yn2 ym2, .slice none 0 0, .slice ya4 yn4 ym4, .slice ya5 yn5 ym5, .int .i64 yc, .int .i64 ye] 31)).heap.size by simp)
  clear ho hb hsz1 Z1 B1 B2 B3 HI CS KA
  obtain ⟨z0, z1, z2, z3, z4, z5, z6, z7⟩ := vec8 KR.out
  obtain ⟨f0, f1, f2, f3, f4, f5, f6, f7⟩ := free8 KR.out
  go_wp2
  exact vec_end rfl rfl rfl KR.out ⟨_, rfl, (HO.out.put8 (by omega) _ _ _ _ _ _ _ _).wide (by omega) (by rw [put8_size]; exact S4.out), put8_below B4.out (Nat.le_succ _)⟩
end Go.Proofs.YtpekdmocgjjhnaaGreat

/- ElementOf: the program. -/
namespace Go.Proofs.YtpekdmocgjjhnaaGreat
open Go.RowKit
set_option maxRecDepth 100000
set_option linter.unusedVariables false

theorem implElemV (d : Nat) (v : Vec) (val : Value) (lo hi : Nat) (w : World) (hv : VecAt lo hi w d v val) (hhi : hi ≤ w.heap.size) (hsm : Small d v) (hval : ValidV v) (h5 : ¬ kindV v = 5) (j : Nat) (hj : j < lengthV v) :
    Calls Tryz.prog 42 #[val, .int .i64 (j : Int)] w (ResV d (elmV v j) w) := by
  obtain ⟨kk, items, parts, names, cls, levels, code, env⟩ := v
  obtain ⟨d', ai, ci, ap, cp, an, cn, ac, cc, al, cl, ed, rfl, hI, hN, hC, hL, hP⟩ := vecAt_open hv
  subst ed
  have h5 : ¬ kk = 5 := h5
  have hj : j < items.length + parts.length := by have h : j < lenV kk items.length parts.length := hj; unfold lenV at h; rw [if_neg h5] at h; exact h
  by_cases h4 : kk = 4
  · subst h4
    have hf : FlatOk 4 items parts.length names cls levels code env := hval.1.flat
    have l0 := hf.h_list rfl
    have hj : j < parts.length := by omega
    rw [elm_list]
    refine (implElemL d' items parts names cls levels code env ai ap an ac al ci cp cn cc cl lo hi w hP hhi j hj (hsm.2.2.2.2.2.2.2.2.2 _ (by rw [List.getD_eq_getElem?_getD, List.getElem?_eq_getElem hj]; exact List.getElem_mem hj)) hsm.2.1).mono ?_
    rintro e w' ⟨y, rfl, ho, hb⟩
    exact ⟨y, rfl, Own.le (Nat.le_succ d') ho, hb⟩
  · exact implElemA d' kk items parts names cls levels code env ai ap an ac al ci cp cn cc cl lo hi w hI hP hN hC hL hhi hsm hval h4 h5 j hj
set_option maxHeartbeats 4000000 in
theorem implIsPos (d : Nat) (v : Vec) (val : Value) (lo hi : Nat) (w : World) (hv : VecAt lo hi w d v val) (hhi : hi ≤ w.heap.size) (hsm : Small d v) (z : Int) :
    Calls Tryz.prog 41 #[val, .int .i64 z] w fun e w' => e = .returned (.bool (bB (1 ≤ z ∧ z ≤ (lengthV v : Int)))) ∧ Below w.heap.size w w' := by
  have LN := Lib.hid (fun (W : World) (hb : Below w.heap.size w W) => implLenW d v val lo hi W (hv.below hb hhi) hsm)
  obtain ⟨L, hL⟩ : ∃ L, lengthV v = L := ⟨_, rfl⟩
  rw [hL] at LN ⊢
  obtain ⟨vk, va1, vn1, vm1, va2, vn2, vm2, va3, vn3, vm3, va4, vn4, vm4, va5, vn5, vm5, vc, ve, rfl⟩ := hv.agg
  clear hv hhi hsm hL
  by_cases h1 : 1 ≤ z
  · go_enter Tryz.func41, Tryz.ntmps41
    go_wp2_with fail
    refine (LN.out _ (below1 _ _)).mono ?_
    rintro e w1 ⟨rfl, b⟩
    have B1 := Lib.hid (below_then (below1 w _) b)
    clear b LN
    by_cases h2 : z ≤ (L : Int)
    · have XX := Lib.hid (bB_yes (show 1 ≤ z ∧ z ≤ (L : Int) from ⟨h1, h2⟩))
      go_wp2
      go_ret
      exact ⟨by rw [XX.out]; rfl, B1.out⟩
    · have XX := Lib.hid (bB_no (show ¬ (1 ≤ z ∧ z ≤ (L : Int)) from fun e => h2 e.2))
      go_wp2
      go_ret
      exact ⟨by rw [XX.out]; first | rfl | (show Ending.returned (Value.bool (decide (z ≤ (L : Int)))) = _; rw [decide_eq_false (by omega)]), B1.out⟩
  · have XX := Lib.hid (bB_no (show ¬ (1 ≤ z ∧ z ≤ (L : Int)) from fun e => h1 e.1))
    clear LN
    go_enter Tryz.func41, Tryz.ntmps41
    go_wp2
    go_ret
    exact ⟨by rw [XX.out]; rfl, below1 _ _⟩
end Go.Proofs.YtpekdmocgjjhnaaGreat
