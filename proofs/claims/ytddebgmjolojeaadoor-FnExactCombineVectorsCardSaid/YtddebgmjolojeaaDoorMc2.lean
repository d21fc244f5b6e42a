/- Results that are vectors, in blocks of a range of their own; what a mark leaves alone. -/
import Derived.Test.YtddebgmjolojeaaDoorRows
import Derived.Deep.OwnRows
import Derived.Test.YtddebgmjolojeaaDoorMc1
import Derived.Test.YtddebgmjolojeaaDoorNumMake
import Derived.Test.YtddebgmjolojeaaDoorNumGcd
import Derived.Test.YtddebgmjolojeaaDoorVecIt
import Derived.Test.YtddebgmjolojeaaDoorNumMath
import Derived.Test.YtddebgmjolojeaaDoorVecIs
import Derived.Test.YtddebgmjolojeaaDoorVecStrI
import Derived.WalkKit
import Derived.Lib.Hide
import Derived.WalkSpells
import Derived.WalkLawsBesides
import Derived.Lib.SmallJoins
import Derived.ChangeSlices
import Derived.ProofKit
import Derived.BigQuiet
import Derived.Deep.QuietTactic
import Derived.OpenShut
import Derived.IntWalk
import Derived.Below
import Derived.OwnWalk
import Derived.Deep.DeepCutAuto
import Derived.Laws.ResultCell
import Derived.RegionTactic
import Derived.Deep.MidRow
import Derived.Maps.AppendAt
import Derived.Laws.EntriesVeiled
namespace Go.Proofs.YtddebgmjolojeaaDoor
open Go.RowKit
set_option maxRecDepth 100000
set_option linter.unusedVariables false

/-- The value is the vector V; each of its slices lies in a block of its own from lo to hi. -/
structure Own (d : Nat) (V : Vec) (y : Value) (lo hi : Nat) (w : World) : Prop where
  out : ∃ F, OwnVec w d V y F ∧ F.Nodup ∧ ∀ b ∈ F, lo ≤ b ∧ b < hi
/-- Nothing but blocks from lo to hi has changed. -/
structure Within (lo hi : Nat) (w w' : World) : Prop where
  os : w'.os = w.os
  tape : w'.tape = w.tape
  output : w'.output = w.output
  size : w.heap.size ≤ w'.heap.size
  block : ∀ b, b < w.heap.size → (b < lo ∨ hi ≤ b) → w'.heap[b]? = w.heap[b]?
theorem Touch.within {F : List Nat} {lo hi : Nat} {w w' : World} (h : Touch F w w') (hF : ∀ b ∈ F, lo ≤ b ∧ b < hi) : Within lo hi w w' :=
  ⟨h.os, h.tape, h.output, h.size, fun b hb hr => h.block b hb (fun hm => by have := hF b hm; omega)⟩
theorem Within.below {lo hi B : Nat} {w w' : World} (h : Within lo hi w w') (hB : B ≤ lo) (hw : B ≤ w.heap.size) : Below B w w' :=
  ⟨h.os, h.tape, h.output, h.size, fun b hb => h.block b (by omega) (.inl (by omega))⟩
theorem Within.blk {lo hi b : Nat} {w w' : World} {o : Obj} (h : Within lo hi w w') (hr : b < lo ∨ hi ≤ b) (hb : w.heap[b]? = some o) : w'.heap[b]? = some o :=
  (h.block b (Array.getElem?_eq_some_iff.1 hb).1 hr).trans hb
theorem Own.below {d : Nat} {V : Vec} {y : Value} {lo hi : Nat} {w w' : World} (h : Own d V y lo hi w) (hb : Below w.heap.size w w') (hh : hi ≤ w.heap.size) : Own d V y lo hi w' := by
  obtain ⟨F, h1, h2, h3⟩ := h.out
  exact ⟨F, h1.kept _ _ _ _ (fun b hm => hb.block b (by have := h3 b hm; omega)), h2, h3⟩
theorem Own.within {d : Nat} {V : Vec} {y : Value} {lo hi lo' hi' : Nat} {w w' : World} (h : Own d V y lo hi w) (k : Within lo' hi' w w') (hr : hi ≤ lo' ∨ hi' ≤ lo) (hh : hi ≤ w.heap.size) : Own d V y lo hi w' := by
  obtain ⟨F, h1, h2, h3⟩ := h.out
  exact ⟨F, h1.kept _ _ _ _ (fun b hm => k.block b (by have := h3 b hm; omega) (by have := h3 b hm; omega)), h2, h3⟩
theorem Own.vat {d : Nat} {V : Vec} {y : Value} {lo hi : Nat} {w : World} (h : Own d V y lo hi w) {H : Nat} (hh : hi ≤ H) : VecAt 0 H w d V y := by
  obtain ⟨F, h1, _, h3⟩ := h.out
  exact h1.vecAt _ _ _ _ (fun b hm => by have := h3 b hm; omega)
theorem Own.wide {d : Nat} {V : Vec} {y : Value} {lo hi lo' hi' : Nat} {w : World} (h : Own d V y lo hi w) (h0 : lo' ≤ lo) (h1 : hi ≤ hi') : Own d V y lo' hi' w := by
  obtain ⟨F, a, b, c⟩ := h.out
  exact ⟨F, a, b, fun g hg => by have := c g hg; omega⟩
theorem Own.agg {d : Nat} {V : Vec} {y : Value} {lo hi : Nat} {w : World} (h : Own d V y lo hi w) : ∃ (k : Int) (a1 : Option Addr) (n1 m1 : Nat) (a2 : Option Addr) (n2 m2 : Nat) (a3 : Option Addr) (n3 m3 : Nat) (a4 : Option Addr) (n4 m4 : Nat) (a5 : Option Addr) (n5 m5 : Nat) (code env : Int), y = .agg #[.int .i64 k, .slice a1 n1 m1, .slice a2 n2 m2, .slice a3 n3 m3, .slice a4 n4 m4, .slice a5 n5 m5, .int .i64 code, .int .i64 env] := by
  obtain ⟨F, h1, _⟩ := h.out
  exact h1.agg
/-- A function's answer: a vector in new blocks. -/
def ResV (d : Nat) (V : Vec) (w : World) (e : Ending) (w' : World) : Prop := ∃ y, e = .returned y ∧ Own d V y w.heap.size w'.heap.size w' ∧ Below w.heap.size w w'
/-- A function's answer: a vector in new blocks, and a text. -/
def ResVS (d : Nat) (V : Vec) (s : ByteArray) (w : World) (e : Ending) (w' : World) : Prop := ∃ y, e = .returned (.tuple #[y, .string s]) ∧ Own d V y w.heap.size w'.heap.size w' ∧ Below w.heap.size w w'
/-- The mark of a vector of one's own. -/
theorem markOwn (d : Nat) (V : Vec) (y : Value) (lo hi : Nat) (w : World) (h : Own d V y lo hi w) (hh : hi ≤ w.heap.size) (hs : Small d V) (hc : 1 + cntM d V ≤ 8000000) :
    Calls Tryd.prog 10 #[y, .int .i64 1] w fun e w' => e = .returned (.int .i64 ((1 + cntM d V : Nat) : Int)) ∧ Own d (markV d 1 V) y lo hi w' ∧ Within lo hi w w' := by
  obtain ⟨F, h1, h2, h3⟩ := h.out
  refine (markVec d V y 1 F w h1 h2 (fun b hb => by have := h3 b hb; omega) hs (Nat.le_refl _) hc).mono ?_
  rintro e w' ⟨rfl, ho, t⟩
  exact ⟨rfl, ⟨F, ho, h2, h3⟩, t.within h3⟩
theorem heldOwn (d : Nat) (V : Vec) (y : Value) (lo hi : Nat) (w : World) (h : Own d (markV d 1 V) y lo hi w) (hh : hi ≤ w.heap.size) (hs : Small d V) (hc : 1 + cntM d V ≤ 8000000) :
    Calls Tryd.prog 11 #[y, .int .i64 1] w fun e w' => e = .returned (.int .i64 ((1 + cntM d V : Nat) : Int)) ∧ Below w.heap.size w w' :=
  heldVec d V y 1 0 w.heap.size w (h.vat hh) (Nat.le_refl _) hs (Nat.le_refl _) hc
end Go.Proofs.YtddebgmjolojeaaDoor

/- Slices of ints in memory, and the laws' own helpers on them. -/
namespace Go.Proofs.YtddebgmjolojeaaDoor
set_option maxRecDepth 100000
open Go.RowKit

/-- The slice at a holds the n ints f 0, f 1, .., in a block below B. -/
def IntsAt (B : Nat) (w : World) (a : Option Addr) (n : Nat) (f : Nat → Int) : Prop := ∀ i, i < n → ∃ b off, a = some ⟨b, off, none⟩ ∧ b < B ∧ w.cell? ⟨b, off + i, none⟩ = some (.int .i64 (f i))
theorem IntsAt.below {B : Nat} {w w1 : World} {a : Option Addr} {n : Nat} {f : Nat → Int} (h : IntsAt B w a n f) (hb : Below B w w1) : IntsAt B w1 a n f := by
  intro i hi
  obtain ⟨b, off, e, hlt, hc⟩ := h i hi
  exact ⟨b, off, e, hlt, by rw [hb.cell hlt]; exact hc⟩
theorem IntsAt.mono {B B' : Nat} {w : World} {a : Option Addr} {n : Nat} {f : Nat → Int} (h : IntsAt B w a n f) (hB : B ≤ B') : IntsAt B' w a n f := by
  intro i hi
  obtain ⟨b, off, e, hlt, hc⟩ := h i hi
  exact ⟨b, off, e, by omega, hc⟩
/-- Block b holds the cells C. -/
def RowI (w : World) (b : Nat) (C : Array Value) : Prop := w.heap[b]? = some (.cells C 3 (0, 0))
theorem RowI.cell {w : World} {b i : Nat} {C : Array Value} {v : Value} (h : RowI w b C) (hv : C[i]? = some v) : w.cell? ⟨b, i, none⟩ = some v := by
  unfold RowI at h; unfold World.cell?; simp only [h]; exact hv
theorem RowI.free {w : World} {b i : Nat} {C : Array Value} (h : RowI w b C) : w.frozen? ⟨b, i, none⟩ = false := by
  unfold RowI at h; unfold World.frozen?; simp only [h]; simp
theorem RowI.set {w : World} {b i : Nat} {C : Array Value} (h : RowI w b C) (v : Value) : RowI (w.setCell ⟨b, i, none⟩ v) b (C.setIfInBounds i v) := Joins.block_setCell h v
theorem RowI.lt {w : World} {b : Nat} {C : Array Value} (h : RowI w b C) : b < w.heap.size := (Array.getElem?_eq_some_iff.1 h).1
/-- A row of n cells whose first k are the ints of f. -/
def FilledI (w : World) (b n k : Nat) (f : Nat → Int) : Prop := ∃ C, RowI w b C ∧ C.size = n ∧ ∀ i, i < k → C[i]? = some (.int .i64 (f i))
theorem FilledI.step {w : World} {b n k : Nat} {f : Nat → Int} (h : FilledI w b n k f) (hk : k < n) : FilledI (w.setCell ⟨b, k, none⟩ (.int .i64 (f k))) b n (k + 1) f := by
  obtain ⟨C, hC, hn, hf⟩ := h
  refine ⟨C.setIfInBounds k (.int .i64 (f k)), hC.set _, by simpa using hn, fun i hi => ?_⟩
  by_cases e : i = k
  · subst e; simp [hn, hk]
  · rw [Array.getElem?_setIfInBounds_ne (by omega)]; exact hf i (by omega)
theorem FilledI.ints {w : World} {b n : Nat} {f : Nat → Int} (h : FilledI w b n n f) : IntsAt w.heap.size w (some ⟨b, 0, none⟩) n f := by
  obtain ⟨C, hC, _, hf⟩ := h
  intro i hi
  exact ⟨b, 0, rfl, hC.lt, by rw [Nat.zero_add]; exact hC.cell (hf i hi)⟩
end Go.Proofs.YtddebgmjolojeaaDoor

/- Slices of ints and of texts that a law makes of its arguments; the laws' own helpers on them, said by ranges of blocks. -/
namespace Go.Proofs.YtddebgmjolojeaaDoor
open Go.RowKit
set_option maxRecDepth 100000
set_option linter.unusedVariables false

/-- The slice at a holds n ints f in a block of its own from lo to hi. -/
structure OwnI (a : Option Addr) (n : Nat) (f : Nat → Int) (lo hi : Nat) (w : World) : Prop where
  out : ∃ b C, a = some ⟨b, 0, none⟩ ∧ lo ≤ b ∧ b < hi ∧ w.heap[b]? = some (.cells C 3 (0, 0)) ∧ n ≤ C.size ∧ ∀ i, i < n → C[i]? = some (.int .i64 (f i))
theorem OwnI.below {a : Option Addr} {n : Nat} {f : Nat → Int} {lo hi : Nat} {w w' : World} (h : OwnI a n f lo hi w) (hb : Below w.heap.size w w') (hh : hi ≤ w.heap.size) : OwnI a n f lo hi w' := by
  obtain ⟨b, C, e, h0, h1, h2, r⟩ := h.out
  exact ⟨b, C, e, h0, h1, blk_below hb h2, r⟩
theorem OwnI.within {a : Option Addr} {n : Nat} {f : Nat → Int} {lo hi lo' hi' : Nat} {w w' : World} (h : OwnI a n f lo hi w) (k : Within lo' hi' w w') (hr : hi ≤ lo' ∨ hi' ≤ lo) (hh : hi ≤ w.heap.size) : OwnI a n f lo hi w' := by
  obtain ⟨b, C, e, h0, h1, h2, r⟩ := h.out
  exact ⟨b, C, e, h0, h1, k.blk (by omega) h2, r⟩
theorem OwnI.at_ {a : Option Addr} {n : Nat} {f : Nat → Int} {lo hi : Nat} {w : World} (h : OwnI a n f lo hi w) {H : Nat} (hh : hi ≤ H) : IntsAt H w a n f := by
  obtain ⟨b, C, e, h0, h1, h2, _, r⟩ := h.out
  intro i hi'
  exact ⟨b, 0, e, by omega, by rw [Nat.zero_add]; exact cellOf h2 (r i hi')⟩
/-- The slice at a holds the n texts f in a block of its own from lo to hi. -/
structure OwnS (a : Option Addr) (n : Nat) (f : Nat → ByteArray) (lo hi : Nat) (w : World) : Prop where
  out : ∃ b C, a = some ⟨b, 0, none⟩ ∧ lo ≤ b ∧ b < hi ∧ w.heap[b]? = some (.cells C 9 (0, 0)) ∧ n ≤ C.size ∧ ∀ i, i < n → C[i]? = some (.string (f i))
theorem OwnS.below {a : Option Addr} {n : Nat} {f : Nat → ByteArray} {lo hi : Nat} {w w' : World} (h : OwnS a n f lo hi w) (hb : Below w.heap.size w w') (hh : hi ≤ w.heap.size) : OwnS a n f lo hi w' := by
  obtain ⟨b, C, e, h0, h1, h2, r⟩ := h.out
  exact ⟨b, C, e, h0, h1, blk_below hb h2, r⟩
theorem OwnS.within {a : Option Addr} {n : Nat} {f : Nat → ByteArray} {lo hi lo' hi' : Nat} {w w' : World} (h : OwnS a n f lo hi w) (k : Within lo' hi' w w') (hr : hi ≤ lo' ∨ hi' ≤ lo) (hh : hi ≤ w.heap.size) : OwnS a n f lo hi w' := by
  obtain ⟨b, C, e, h0, h1, h2, r⟩ := h.out
  exact ⟨b, C, e, h0, h1, k.blk (by omega) h2, r⟩
theorem OwnS.at_ {a : Option Addr} {n : Nat} {f : Nat → ByteArray} {lo hi : Nat} {w : World} (h : OwnS a n f lo hi w) {H : Nat} (hh : hi ≤ H) : StrsAt H w a n f := by
  obtain ⟨b, C, e, h0, h1, h2, _, r⟩ := h.out
  intro i hi'
  exact ⟨b, 0, e, by omega, by rw [Nat.zero_add]; exact cellOf h2 (r i hi')⟩
theorem toStrsR (a : Option Addr) (n cap : Nat) (f : Nat → ByteArray) (B : Nat) (w : World) (hs : StrsAt B w a n f) (hB : B ≤ w.heap.size) (hn : n ≤ 1048576) :
    Calls Tryd.prog 16 #[.slice a n cap] w fun e w' => ∃ x, e = .returned (.slice x n n) ∧ OwnS x n f w.heap.size w'.heap.size w' ∧ Below w.heap.size w w' := by
  refine (toStrs a n cap f w (hs.mono hB) hn).mono ?_
  rintro e w' ⟨rfl, ⟨C, hC, hn', r⟩, hb⟩
  exact ⟨_, rfl, ⟨_, C, rfl, Nat.le_refl _, hC.lt, hC, by omega, r⟩, hb⟩
theorem eqStrsR (a b : Option Addr) (n ca cb : Nat) (f : Nat → ByteArray) (B : Nat) (w : World) (ha : StrsAt B w a n f) (hb : StrsAt B w b n f) (hn : n ≤ 1048576) :
    Calls Tryd.prog 19 #[.slice a n ca, .slice b n cb] w fun e w' => e = .returned (.bool true) ∧ Below w.heap.size w w' := by
  refine (eqStrs a b n ca cb f f B w ha hb (by omega) (fun _ _ => rfl)).mono ?_
  rintro e w' ⟨rfl, m, rfl⟩
  exact ⟨rfl, below_drewN' (Below.refl _ _) m⟩
theorem markStrsR (a : Option Addr) (n c k : Nat) (f : Nat → ByteArray) (lo hi : Nat) (w : World) (h : OwnS a n f lo hi w) (hn : n ≤ 1048576) (h1 : 1 ≤ k) (hk : k + n ≤ 9000000) :
    Calls Tryd.prog 21 #[.slice a n c, .int .i64 k] w fun e w' => e = .returned (.int .i64 ((k : Int) + (n : Int))) ∧ Within lo hi w w' := by
  obtain ⟨b, C, rfl, h0, hb1, hC, hnC, r⟩ := h.out
  have hl : ((List.range n).map f).length = n := by simp
  have ho : OwnTxs w (some ⟨b, 0, none⟩) ((List.range n).map f) [b] := by
    refine .inr ⟨b, C, rfl, rfl, hC, by rw [hl]; exact hnC, fun i hi => ?_⟩
    rw [hl] at hi
    rw [r i hi]; unfold txtS; simp [List.getD_eq_getElem?_getD, hi]
  have hm := markTxs ((List.range n).map f) (some ⟨b, 0, none⟩) c k [b] w ho (by omega) h1 (by omega)
  rw [hl] at hm
  refine hm.mono ?_
  rintro e w' ⟨rfl, _, t⟩
  exact ⟨rfl, t.within (fun g hg => by obtain rfl := List.mem_singleton.1 hg; exact ⟨h0, hb1⟩)⟩
end Go.Proofs.YtddebgmjolojeaaDoor

/- Three-valued logic on ints: the program's and the reference's functions. -/
namespace Go.Proofs.YtddebgmjolojeaaDoor
set_option maxRecDepth 100000
open Go.RowKit
set_option linter.unusedVariables false

/-- The three values: 0, 1 and missing. -/
def vL (x : Int) : Int := if x = 0 then 0 else if x = 1 then 1 else 2
def nL (x : Int) : Int := if x = 0 then 1 else if x = 1 then 0 else 2
def aL (x y : Int) : Int := if x = 0 ∨ y = 0 then 0 else if x = 1 ∧ y = 1 then 1 else 2
def oL (x y : Int) : Int := if x = 1 ∨ y = 1 then 1 else if x = 0 ∧ y = 0 then 0 else 2
def xL (x y : Int) : Int := if (x = 0 ∨ x = 1) ∧ (y = 0 ∨ y = 1) then (if x = y then 0 else 1) else 2
def L3 (x : Int) : Prop := x = 0 ∨ x = 1 ∨ x = 2
theorem L3.in {x : Int} (h : L3 x) : -9223372036854775808 ≤ x ∧ x ≤ 9223372036854775807 := by unfold L3 at h; omega
end Go.Proofs.YtddebgmjolojeaaDoor

/- Vectors of items that a call builds; LogicalVector of the program. -/
namespace Go.Proofs.YtddebgmjolojeaaDoor
open Go.RowKit
set_option maxRecDepth 100000
set_option linter.unusedVariables false

/-- A vector of items alone. -/
def vecOf (k : Int) (l : List It) : Vec := .mk k l [] [] [] [] 0 0
def itF (g : Nat → It) (n : Nat) : List It := (List.range n).map g
theorem itF_len (g : Nat → It) (n : Nat) : (itF g n).length = n := by simp [itF]
theorem itF_succ (g : Nat → It) (n : Nat) : itF g n ++ [g n] = itF g (n + 1) := by unfold itF; rw [List.range_succ, List.map_append]; rfl
theorem own_zero (lo hi : Nat) (w : World) : Own 1 noV (.agg #[.int .i64 0, .slice none 0 0, .slice none 0 0, .slice none 0 0, .slice none 0 0, .slice none 0 0, .int .i64 0, .int .i64 0]) lo hi w := by
  refine ⟨[], ?_, List.nodup_nil, (fun _ h => by cases h)⟩
  show OwnVec w 1 (.mk 0 [] [] [] [] [] 0 0) _ []
  unfold OwnVec
  exact ⟨none, 0, none, 0, none, 0, none, 0, none, 0, [], [], [], [], [], rfl, rfl, ⟨Nat.le_refl _, Nat.le_refl _, Nat.le_refl _, Nat.le_refl _, Nat.le_refl _⟩, .inl ⟨rfl, rfl⟩, .inl ⟨rfl, rfl⟩, .inl ⟨rfl, rfl⟩, .inl ⟨rfl, rfl⟩, .inl ⟨rfl, rfl⟩⟩
/-- A vector whose items the call has built. -/
theorem own_vecOf {w : World} {B lo : Nat} {k : Int} {l : List It} {sa : Option Addr} {sn sc : Nat} (h : w.ownsRow B 67 3 (.slice sa sn sc) l.length (itCells l)) (hB : lo ≤ B) : Own 1 (vecOf k l) (.agg #[.int .i64 k, .slice sa sn sc, .slice none 0 0, .slice none 0 0, .slice none 0 0, .slice none 0 0, .int .i64 0, .int .i64 0]) lo w.heap.size w := by
  obtain ⟨a, c, F, e, ho, hn, hr, hc⟩ := own_of_its h
  obtain ⟨rfl, rfl, rfl⟩ : sa = a ∧ sn = l.length ∧ sc = c := by simpa using e
  refine ⟨F, ?_, hn, fun b hb => by have := hr b hb; omega⟩
  show OwnVec w 1 (.mk k l [] [] [] [] 0 0) _ F
  unfold OwnVec
  exact ⟨sa, sc, none, 0, none, 0, none, 0, none, 0, F, [], [], [], [], rfl, by simp, ⟨hc, Nat.le_refl _, Nat.le_refl _, Nat.le_refl _, Nat.le_refl _⟩, ho, .inl ⟨rfl, rfl⟩, .inl ⟨rfl, rfl⟩, .inl ⟨rfl, rfl⟩, .inl ⟨rfl, rfl⟩⟩
theorem small_vecOf {k : Int} {l : List It} (h : l.length ≤ 1048576) (ht : ∀ x ∈ l, x.t.size ≤ 1048576) : Small 1 (vecOf k l) := by
  show Small 1 (.mk k l [] [] [] [] 0 0)
  unfold Small
  exact ⟨h, Nat.zero_le _, Nat.zero_le _, Nat.zero_le _, Nat.zero_le _, ht, (fun _ h => by cases h), (fun _ h => by cases h), (fun _ h => by cases h), (fun _ h => by cases h)⟩
theorem small_noV : Small 1 noV := by
  show Small 1 (.mk 0 [] [] [] [] [] 0 0)
  unfold Small
  exact ⟨Nat.zero_le _, Nat.zero_le _, Nat.zero_le _, Nat.zero_le _, Nat.zero_le _, (fun _ h => by cases h), (fun _ h => by cases h), (fun _ h => by cases h), (fun _ h => by cases h), (fun _ h => by cases h)⟩
theorem fits_vecOf {k : Int} {l : List It} (hk : -9223372036854775808 ≤ k ∧ k ≤ 9223372036854775807) (h : l.length ≤ 1048576) (ht : ∀ x ∈ l, InB x) : Fits 1 (vecOf k l) := by
  show Fits 1 (.mk k l [] [] [] [] 0 0)
  unfold Fits
  refine ⟨hk, ⟨by decide, by decide⟩, ⟨by decide, by decide⟩, by unfold maxLen; omega, Nat.zero_le _, Nat.zero_le _, Nat.zero_le _, Nat.zero_le _, fun x hx => ht x hx, (fun _ h => by cases h), (fun _ h => by cases h), (fun _ h => by cases h), (fun _ h => by cases h)⟩
theorem fits_noV : Fits 1 noV := by
  show Fits 1 (.mk 0 [] [] [] [] [] 0 0)
  unfold Fits
  exact ⟨⟨by decide, by decide⟩, ⟨by decide, by decide⟩, ⟨by decide, by decide⟩, Nat.zero_le _, Nat.zero_le _, Nat.zero_le _, Nat.zero_le _, Nat.zero_le _, (fun _ h => by cases h), (fun _ h => by cases h), (fun _ h => by cases h), (fun _ h => by cases h), (fun _ h => by cases h)⟩
/-- What a loop that appends items keeps: the result's block, the vector's block behind it, the items so far. -/
structure AppL (w wr : World) (kind : Int) (l : List It) (sa : Option Addr) (sn sc : Nat) : Prop where
  res : wr.heap[w.heap.size]? = some (.cells #[.int .i64 0, .slice none 0 0, .slice none 0 0, .slice none 0 0, .slice none 0 0, .slice none 0 0, .int .i64 0, .int .i64 0] 31 (0, 0))
  vec : wr.heap[w.heap.size + 1]? = some (.cells #[.int .i64 kind, .slice sa sn sc, .slice none 0 0, .slice none 0 0, .slice none 0 0, .slice none 0 0, .int .i64 0, .int .i64 0] 31 (0, 0))
  row : wr.ownsRow (w.heap.size + 2) 67 3 (.slice sa sn sc) l.length (itCells l)
  below : Below w.heap.size w wr
theorem AppL.big {w wr : World} {kind : Int} {l : List It} {sa : Option Addr} {sn sc : Nat} (h : AppL w wr kind l sa sn sc) : w.heap.size + 1 < wr.heap.size := (Array.getElem?_eq_some_iff.1 h.vec).1
theorem AppL.keep {w wr w1 : World} {kind : Int} {l : List It} {sa : Option Addr} {sn sc : Nat} (h : AppL w wr kind l sa sn sc) (hb : Below wr.heap.size wr w1) : AppL w w1 kind l sa sn sc :=
  ⟨blk_below hb h.res, blk_below hb h.vec, ownsRow_below h.row hb, below_then h.below hb⟩
theorem AppL.heldC {w wr : World} {kind : Int} {l : List It} {sa : Option Addr} {sn sc : Nat} (h : AppL w wr kind l sa sn sc) : HeldC w wr [(w.heap.size, 31, #[.int .i64 0, .slice none 0 0, .slice none 0 0, .slice none 0 0, .slice none 0 0, .slice none 0 0, .int .i64 0, .int .i64 0]), (w.heap.size + 1, 31, #[.int .i64 kind, .slice sa sn sc, .slice none 0 0, .slice none 0 0, .slice none 0 0, .slice none 0 0, .int .i64 0, .int .i64 0])] := heldC_two h.below h.res h.vec
theorem AppL.far {w wr : World} {kind : Int} {l : List It} {sa : Option Addr} {sn sc : Nat} (h : AppL w wr kind l sa sn sc) {q : Nat × TypeId × Array Value} (hq : q ∈ [(w.heap.size, 31, #[.int .i64 0, .slice none 0 0, .slice none 0 0, .slice none 0 0, .slice none 0 0, .slice none 0 0, .int .i64 0, .int .i64 0]), (w.heap.size + 1, 31, #[.int .i64 kind, .slice sa sn sc, .slice none 0 0, .slice none 0 0, .slice none 0 0, .slice none 0 0, .int .i64 0, .int .i64 0])]) : ∀ k, (Value.slice sa sn sc).ownBlock = some k → q.1 ≠ k := by
  intro k hk e
  have h1 := (h.row.lt k hk).1
  rcases List.mem_cons.1 hq with rfl | hq
  · simp only at e; omega
  · obtain rfl := List.mem_singleton.1 hq
    simp only at e; omega
theorem AppL.start (w : World) (kind : Int) : AppL w ((w.alloc (.cells #[.int .i64 0, .slice none 0 0, .slice none 0 0, .slice none 0 0, .slice none 0 0, .slice none 0 0, .int .i64 0, .int .i64 0] 31)).alloc (.cells #[.int .i64 kind, .slice none 0 0, .slice none 0 0, .slice none 0 0, .slice none 0 0, .slice none 0 0, .int .i64 0, .int .i64 0] 31)) kind [] none 0 0 := by
  have h0 : (w.alloc (.cells #[.int .i64 0, .slice none 0 0, .slice none 0 0, .slice none 0 0, .slice none 0 0, .slice none 0 0, .int .i64 0, .int .i64 0] 31)).heap.size = w.heap.size + 1 := by simp
  refine ⟨blk_old (blk_new w _ rfl), ?_, ⟨rfl, .inl ⟨rfl, rfl⟩⟩, (below1 w _).alloc (by simp) _⟩
  have := blk_new (w.alloc (.cells #[.int .i64 0, .slice none 0 0, .slice none 0 0, .slice none 0 0, .slice none 0 0, .slice none 0 0, .int .i64 0, .int .i64 0] 31)) (.cells #[.int .i64 kind, .slice none 0 0, .slice none 0 0, .slice none 0 0, .slice none 0 0, .slice none 0 0, .int .i64 0, .int .i64 0] 31) rfl
  rwa [h0] at this
theorem AppL.next {w W : World} {kind : Int} {l : List It} {z : It} {sa sa' : Option Addr} {sn sc sn' sc' : Nat} (hK : W.heap[w.heap.size + 1]? = some (.cells (#[.int .i64 kind, .slice sa sn sc, .slice none 0 0, .slice none 0 0, .slice none 0 0, .slice none 0 0, .int .i64 0, .int .i64 0].setIfInBounds 1 (.slice sa' sn' sc')) 31 (0, 0)))
    (hO : W.ownsRow (w.heap.size + 2) 67 3 (.slice sa' sn' sc') (l ++ [z]).length (itCells (l ++ [z]))) (hB : Below w.heap.size w W)
    (hR : ∀ q ∈ [(w.heap.size, 31, #[.int .i64 0, .slice none 0 0, .slice none 0 0, .slice none 0 0, .slice none 0 0, .slice none 0 0, .int .i64 0, .int .i64 0]), (w.heap.size + 1, 31, #[.int .i64 kind, .slice sa sn sc, .slice none 0 0, .slice none 0 0, .slice none 0 0, .slice none 0 0, .int .i64 0, .int .i64 0])], q.1 ≠ w.heap.size + 1 → W.heap[q.1]? = some (.cells q.2.2 q.2.1 (0, 0))) : AppL w W kind (l ++ [z]) sa' sn' sc' :=
  ⟨hR _ (List.Mem.head _) (by simp only; omega), hK, hO, hB⟩
theorem free8 {w : World} {b : Nat} {C : Array Value} {t : TypeId} (h : w.heap[b]? = some (.cells C t (0, 0))) : w.frozen? ⟨b, 0, none⟩ = false ∧ w.frozen? ⟨b, 1, none⟩ = false ∧ w.frozen? ⟨b, 2, none⟩ = false ∧ w.frozen? ⟨b, 3, none⟩ = false ∧ w.frozen? ⟨b, 4, none⟩ = false ∧ w.frozen? ⟨b, 5, none⟩ = false ∧ w.frozen? ⟨b, 6, none⟩ = false ∧ w.frozen? ⟨b, 7, none⟩ = false :=
  ⟨freeOf h, freeOf h, freeOf h, freeOf h, freeOf h, freeOf h, freeOf h, freeOf h⟩
/-- A vector that has just been stored into the result's block. -/
theorem vec_end {fn : Func} {R : Ending → World → Prop} {act : Act} {w : World} {g : Nat} {p : Tmp} {z0 z1 z2 z3 z4 z5 z6 z7 c0 c1 c2 c3 c4 c5 c6 c7 : Value} {t : TypeId}
    (hfn : fn.results = #[.cell p 31]) (hp : act.tmps.getD p undef = .pointer (some ⟨g, 0, none⟩)) (hd : act.defers = []) (hg : w.heap[g]? = some (.cells #[z0, z1, z2, z3, z4, z5, z6, z7] t (0, 0)))
    (hR : R (.returned (.agg #[c0, c1, c2, c3, c4, c5, c6, c7])) (put8 w g 0 c0 c1 c2 c3 c4 c5 c6 c7)) :
    bodyPost Tryd.prog fn R .ret act ((((((((w.setCell ⟨g, 0, none⟩ c0).setCell ⟨g, 1, none⟩ c1).setCell ⟨g, 2, none⟩ c2).setCell ⟨g, 3, none⟩ c3).setCell ⟨g, 4, none⟩ c4).setCell ⟨g, 5, none⟩ c5).setCell ⟨g, 6, none⟩ c6).setCell ⟨g, 7, none⟩ c7) :=
  vec_ret0 hfn hp hd (put8_lit hg) hR
theorem Own.put8 {d : Nat} {V : Vec} {y : Value} {lo hi : Nat} {w : World} (h : Own d V y lo hi w) {g p : Nat} (hg : g < lo) (c0 c1 c2 c3 c4 c5 c6 c7 : Value) : Own d V y lo hi (put8 w g p c0 c1 c2 c3 c4 c5 c6 c7) := by
  obtain ⟨F, h1, h2, h3⟩ := h.out
  exact ⟨F, h1.kept _ _ _ _ (fun b hb => put8_other (by have := h3 b hb; omega)), h2, h3⟩
theorem put8_size {w : World} {g p : Nat} {c0 c1 c2 c3 c4 c5 c6 c7 : Value} : (put8 w g p c0 c1 c2 c3 c4 c5 c6 c7).heap.size = w.heap.size := by unfold put8; simp
theorem AppL.fin {w wr : World} {kind : Int} {l : List It} {sa : Option Addr} {sn sc : Nat} (h : AppL w wr kind l sa sn sc) : ResV 1 (vecOf kind l) w (.returned (.agg #[.int .i64 kind, .slice sa sn sc, .slice none 0 0, .slice none 0 0, .slice none 0 0, .slice none 0 0, .int .i64 0, .int .i64 0])) (put8 wr w.heap.size 0 (.int .i64 kind) (.slice sa sn sc) (.slice none 0 0) (.slice none 0 0) (.slice none 0 0) (.slice none 0 0) (.int .i64 0) (.int .i64 0)) := by
  have ho := own_vecOf (k := kind) (lo := w.heap.size + 2) h.row (Nat.le_refl _)
  refine ⟨_, rfl, ((ho.put8 (by omega) _ _ _ _ _ _ _ _).wide (by omega) ?_), put8_below h.below (Nat.le_refl _)⟩
  rw [put8_size]
  exact Nat.le_refl _
/-- The item of a logical value. -/
def logI (x : Int) : It := if x = 0 then ⟨0, 1, ⟨#[]⟩⟩ else if x = 1 then ⟨1, 1, ⟨#[]⟩⟩ else noI
theorem heldC_cons {w v : World} {L : List (Nat × TypeId × Array Value)} {g : Nat} {t : TypeId} {C : Array Value} (h : HeldC w v L) (hb : v.heap[g]? = some (.cells C t (0, 0))) : HeldC w v ((g, t, C) :: L) :=
  ⟨h.1, fun q hq => by
    rcases List.mem_cons.1 hq with rfl | hq
    · exact hb
    · exact h.2 q hq⟩
end Go.Proofs.YtddebgmjolojeaaDoor

/- Vectors of items alone as results of laws: they are small, they fit, and their marks are few; ints that come in, with their bounds. -/
namespace Go.Proofs.YtddebgmjolojeaaDoor
open Go.RowKit
set_option maxRecDepth 100000
set_option linter.unusedVariables false

theorem cnt_vecOf (k : Int) (l : List It) : cntM 1 (vecOf k l) = 3 * l.length := by
  show cntM 1 (.mk k l [] [] [] [] 0 0) = _
  rw [cntM_eq]
  show 3 * l.length + sumN _ 0 + 0 + 0 + 0 = _
  simp [sumN]
theorem cnt_noV : cntM 1 noV = 0 := by
  show cntM 1 (.mk 0 [] [] [] [] [] 0 0) = _
  rw [cntM_eq]
  show 3 * 0 + sumN _ 0 + 0 + 0 + 0 = _
  simp [sumN]
end Go.Proofs.YtddebgmjolojeaaDoor

/- TextVector on both sides. -/
namespace Go.Proofs.YtddebgmjolojeaaDoor
open Go.RowKit
set_option maxRecDepth 100000
set_option linter.unusedVariables false

def txE (s : ByteArray) : It := ⟨0, 1, s⟩
theorem itF_getD (g : Nat → It) {i n : Nat} (h : i < n) : (itF g n).getD i noI = g i := by unfold itF; simp [List.getD_eq_getElem?_getD, h]
/-- What TextVector answers. -/
noncomputable def textV (f : Nat → ByteArray) (n : Nat) : Vec := match bB (n ≤ 40 ∧ ¬ LongIn f n) with
  | true => vecOf 3 (itF (fun i => txE (f i)) n)
  | false => noV
theorem implTxtItem (s : ByteArray) (w : World) :
    Calls Tryd.prog 77 #[.string s] w fun e w' => e = .returned (.agg #[.int .i64 0, .int .i64 1, .string s]) ∧ Below w.heap.size w w' := by
  go_enter Tryd.func77, Tryd.ntmps77
  go_wp2
  first | exact item_ret0 rfl rfl rfl (blk_new _ _ rfl) ⟨rfl, below1 w _⟩ | exact item_ret rfl rfl rfl (blk_new _ _ rfl) ⟨rfl, below_three (below1 w _) (Nat.le_refl _) _ _ _⟩
theorem specTxtItem (s : ByteArray) (w : World) :
    Calls Tryd.prog 52 #[.string s] w fun e w' => e = .returned (.agg #[.int .i64 0, .int .i64 1, .string s]) ∧ Below w.heap.size w w' := by
  go_enter Tryd.func52, Tryd.ntmps52
  go_wp2
  first | exact item_ret0 rfl rfl rfl (blk_new _ _ rfl) ⟨rfl, below1 w _⟩ | exact item_ret rfl rfl rfl (blk_new _ _ rfl) ⟨rfl, below_three (below1 w _) (Nat.le_refl _) _ _ _⟩
theorem AppL.vat {w wr : World} {kind : Int} {l : List It} {sa : Option Addr} {sn sc : Nat} (h : AppL w wr kind l sa sn sc) : VecAt 0 wr.heap.size wr 1 (vecOf kind l) (.agg #[.int .i64 kind, .slice sa sn sc, .slice none 0 0, .slice none 0 0, .slice none 0 0, .slice none 0 0, .int .i64 0, .int .i64 0]) :=
  (own_vecOf (k := kind) (lo := 0) h.row (Nat.zero_le _)).vat (Nat.le_refl _)
end Go.Proofs.YtddebgmjolojeaaDoor

/- Functions that return a vector and a text. -/
namespace Go.Proofs.YtddebgmjolojeaaDoor
open Go.RowKit
set_option maxRecDepth 100000
set_option linter.unusedVariables false

/-- A vector that lies in the result's block as it was made, and a text. -/
theorem vec_ret0S {fn : Func} {R : Ending → World → Prop} {act : Act} {w : World} {g : Nat} {p q : Tmp} {a b c d e f h i s : Value} {t : TypeId} {fr : Nat × Nat}
    (hfn : fn.results = #[.cell p 31, .tmp q]) (hp : act.tmps.getD p undef = .pointer (some ⟨g, 0, none⟩)) (hq : act.tmps.getD q undef = s) (hd : act.defers = []) (hg : w.heap[g]? = some (.cells #[a, b, c, d, e, f, h, i] t fr))
    (hR : R (.returned (.tuple #[.agg #[a, b, c, d, e, f, h, i], s])) w) : bodyPost Tryd.prog fn R .ret act w :=
  bodyPost_ret (by
    have e1 := run_loadVar_row (P := Tryd.prog) w g t 31 #[a, b, c, d, e, f, h, i] fr _ hg Tryd.underlying31 rfl infoVec
    rw [results_cell_tmp hfn, hp, hq]
    show ((loadVar 31 ⟨g, 0, none⟩).run Tryd.prog w).andThen _ = _
    rw [e1]; rfl) hd hR
theorem vec_endS {fn : Func} {R : Ending → World → Prop} {act : Act} {w : World} {g : Nat} {p q : Tmp} {s z0 z1 z2 z3 z4 z5 z6 z7 c0 c1 c2 c3 c4 c5 c6 c7 : Value} {t : TypeId}
    (hfn : fn.results = #[.cell p 31, .tmp q]) (hp : act.tmps.getD p undef = .pointer (some ⟨g, 0, none⟩)) (hq : act.tmps.getD q undef = s) (hd : act.defers = []) (hg : w.heap[g]? = some (.cells #[z0, z1, z2, z3, z4, z5, z6, z7] t (0, 0)))
    (hR : R (.returned (.tuple #[.agg #[c0, c1, c2, c3, c4, c5, c6, c7], s])) (put8 w g 0 c0 c1 c2 c3 c4 c5 c6 c7)) :
    bodyPost Tryd.prog fn R .ret act ((((((((w.setCell ⟨g, 0, none⟩ c0).setCell ⟨g, 1, none⟩ c1).setCell ⟨g, 2, none⟩ c2).setCell ⟨g, 3, none⟩ c3).setCell ⟨g, 4, none⟩ c4).setCell ⟨g, 5, none⟩ c5).setCell ⟨g, 6, none⟩ c6).setCell ⟨g, 7, none⟩ c7) :=
  vec_ret0S hfn hp hq hd (put8_lit hg) hR
/-- "result is too large" -/
def bigB : ByteArray := ⟨#[114, 101, 115, 117, 108, 116, 32, 105, 115, 32, 116, 111, 111, 32, 108, 97, 114, 103, 101]⟩
section
variable {P : Program} {ops : Array Oper} {Q : Exit → Act → World → Prop} {S : World → Prop}
variable {r : List (Nat × Bool)} {a : Act} {e : List (Nat × Value)} {w : World} {i d : Nat} {g : Option (Nat × Bool)} {v : Value}
end
end Go.Proofs.YtddebgmjolojeaaDoor

/- A list of texts copied by append: what lies in the new block. -/
namespace Go.Proofs.YtddebgmjolojeaaDoor
open Go.RowKit
set_option maxRecDepth 100000
set_option linter.unusedVariables false

/-- A row of the call's own that holds the texts of l. -/
theorem own_of_row {w : World} {B : Nat} {v : Value} {l : List ByteArray} (hpos : 0 < l.length) (h : w.ownsRow B 9 1 v l.length (l.map Value.string)) :
    ∃ g c, v = .slice (some ⟨g, 0, none⟩) l.length c ∧ OwnTxs w (some ⟨g, 0, none⟩) l [g] ∧ B ≤ g ∧ g < w.heap.size ∧ l.length ≤ c := by
  obtain ⟨_, h⟩ := h
  rcases h with ⟨_, h0⟩ | ⟨g, cap, cur, rfl, hB, hg, hc, _, hs, ht⟩
  · omega
  · refine ⟨g, cap, rfl, .inr ⟨g, cur, rfl, rfl, hg, by omega, fun i hi => ?_⟩, hB, (Array.getElem?_eq_some_iff.1 hg).1, hc⟩
    have h1 : (cur.toList.take (l.length * 1))[i]? = (l.map Value.string)[i]? := by rw [ht]
    rw [List.getElem?_take_of_lt (by omega)] at h1
    rw [← Array.getElem?_toList, h1]
    unfold txtS
    simp [List.getD_eq_getElem?_getD, hi]
theorem news_cells {w : World} {lo hi b off : Nat} {l : List ByteArray} (h : TextsAt lo hi w (some ⟨b, off, none⟩) l) : ∀ j u, (l.map Value.string)[j]? = some u → w.cell? ((⟨b, off, none⟩ : Addr).add j) = some u := by
  intro j u hj
  rw [List.getElem?_map] at hj
  obtain ⟨s, hs, rfl⟩ := Option.map_eq_some_iff.1 hj
  obtain ⟨b', off', e, _, _, c⟩ := h j s hs
  simp only [Option.some.injEq, Addr.mk.injEq, and_true] at e
  obtain ⟨rfl, rfl⟩ := e
  have ea : (⟨b, off, none⟩ : Addr).add j = ⟨b, off + j, none⟩ := by
    unfold Addr.add; split
    · rename_i h; subst h; rfl
    · rfl
  rw [ea]; exact c
theorem texts_some {w : World} {lo hi : Nat} {a : Option Addr} {l : List ByteArray} (h : TextsAt lo hi w a l) (hpos : 0 < l.length) : ∃ b off, a = some ⟨b, off, none⟩ := by
  obtain ⟨b, off, e, _⟩ := h 0 _ (List.getElem?_eq_getElem hpos)
  exact ⟨b, off, e⟩
end Go.Proofs.YtddebgmjolojeaaDoor

/- What a law needs of a result that is a vector of items alone, or the zero value. -/
namespace Go.Proofs.YtddebgmjolojeaaDoor
open Go.RowKit
set_option maxRecDepth 100000
set_option linter.unusedVariables false

/-- The zero value, or a vector of items alone that fit. -/
def PlainV (V : Vec) : Prop := V = noV ∨ ∃ k l, V = vecOf k l ∧ (-9223372036854775808 ≤ k ∧ k ≤ 9223372036854775807) ∧ l.length ≤ 40 ∧ ∀ x ∈ l, InB x ∧ x.t.size ≤ 1048576
theorem PlainV.small {V : Vec} (h : PlainV V) : Small 1 V := by
  rcases h with rfl | ⟨k, l, rfl, hk, hl, hx⟩
  · exact small_noV
  · exact small_vecOf (by omega) (fun x h => (hx x h).2)
theorem PlainV.fits {V : Vec} (h : PlainV V) : Fits 1 V := by
  rcases h with rfl | ⟨k, l, rfl, hk, hl, hx⟩
  · exact fits_noV
  · exact fits_vecOf hk (by omega) (fun x h => (hx x h).1)
theorem PlainV.cnt {V : Vec} (h : PlainV V) : 1 + cntM 1 V ≤ 8000000 := by
  rcases h with rfl | ⟨k, l, rfl, hk, hl, hx⟩
  · rw [cnt_noV]; omega
  · rw [cnt_vecOf]; omega
end Go.Proofs.YtddebgmjolojeaaDoor

/- Vectors with names that a call builds; texts copied by append, whatever their number. -/
namespace Go.Proofs.YtddebgmjolojeaaDoor
open Go.RowKit
set_option maxRecDepth 100000
set_option linter.unusedVariables false

/-- A vector of items and names. -/
def mkN (k : Int) (l : List It) (names : List ByteArray) : Vec := .mk k l [] names [] [] 0 0
/-- An append of nothing onto nothing. -/
theorem run_app0 {w : World} {dst : Value} {ty : TypeId} (hd : dst = .slice none 0 0 ∨ ∃ g, dst = .slice (some ⟨g, 0, none⟩) 0 0) (ad : Option Addr) (c : Nat) :
    (Builtin.append_ #[24, 24] ty #[dst, .slice ad 0 c]).run Tryd.prog w = .ok dst w := by
  obtain ⟨i0, hi0, hz0, hz1, hz2⟩ := info_parts infoStr
  rcases ad with _ | ad <;> rcases hd with rfl | ⟨g, rfl⟩ <;> simp [Builtin.append_, run_underlying Tryd.underlying24, sizeOf, typeInfo, hi0, Builtin.lenOf, Builtin.firstCells, loadCells, loadCellsFrom, storeCells]
theorem wpList_app0 {w : World} {ops : Array Oper} {rest : List Oper} {o : Oper} {a : Act} {Q : Exit → Act → World → Prop} (hgd : o.guard = none) (s x : Operand)
    (ho : o.op = .call { callee := .builtin .append, args := #[s, x], argTypes := #[24, 24] }) (dst : Value) (hs : a.eval s = dst) (hd : dst = .slice none 0 0 ∨ ∃ g, dst = .slice (some ⟨g, 0, none⟩) 0 0) (ad : Option Addr) (c : Nat) (hx : a.eval x = .slice ad 0 c)
    (h : wpList Tryd.prog ops Q rest (a.put o.dst dst) w) : wpList Tryd.prog ops Q (o :: rest) a w := by
  refine wpList_plain hgd fun K hK => ?_
  unfold Oper.wp
  simp [execOp, ho, resolve, invoke, builtin, hs, hx, run_app0 hd ad c, Result.andThen]
  exact hK _ _ h
/-- What a copy of texts is. -/
def CopyTx (base : Nat) (l : List ByteArray) (v : Value) (w : World) : Prop := ∃ sa sc F, v = .slice sa l.length sc ∧ OwnTxs w sa l F ∧ F.Nodup ∧ (∀ b ∈ F, base ≤ b ∧ b < w.heap.size) ∧ l.length ≤ sc
theorem wpList_copyTexts {w : World} {ops : Array Oper} {rest : List Oper} {o : Oper} {a : Act} {Q : Exit → Act → World → Prop} (hgd : o.guard = none) (s x : Operand)
    (ho : o.op = .call { callee := .builtin .append, args := #[s, x], argTypes := #[24, 24] }) (base : Nat) (v0 : Value) (hs : a.eval s = v0)
    (hv0 : v0 = .slice none 0 0 ∨ ∃ g, base ≤ g ∧ v0 = .slice (some ⟨g, 0, none⟩) 0 0 ∧ w.heap[g]? = some (.cells #[] 9 (0, 0)))
    (ad : Option Addr) (c : Nat) (l : List ByteArray) (lo hi : Nat) (hx : a.eval x = .slice ad l.length c) (hT : TextsAt lo hi w ad l) (hn : l.length ≤ 1048576) (hbase : base ≤ w.heap.size)
    (h : ∀ v' w', CopyTx base l v' w' → Below base w w' → wpList Tryd.prog ops Q rest (a.put o.dst v') w') : wpList Tryd.prog ops Q (o :: rest) a w := by
  by_cases hpos : 0 < l.length
  · obtain ⟨b, off, rfl⟩ := texts_some hT hpos
    obtain ⟨i0, hi0, hz0, hz1, hz2⟩ := info_parts infoStr
    have hown : w.ownsRow base 9 1 v0 0 [] := by
      rcases hv0 with rfl | ⟨g, hg, rfl, hb⟩
      · exact ⟨rfl, .inl ⟨rfl, rfl⟩⟩
      · exact ⟨rfl, .inr ⟨g, 0, #[], rfl, hg, hb, Nat.le_refl _, Nat.zero_le _, rfl, rfl⟩⟩
    refine wpList_append_own w hgd s x 24 ho base 9 i0 (.string ⟨#[]⟩) 1 16 Tryd.underlying24 hi0 hz0 hz1 hz2 rfl (by decide) v0 0 [] hs hown ⟨b, off, none⟩ l.length c (l.map Value.string) hx (by simp) (news_cells hT) (fun u hu => by obtain ⟨s, _, rfl⟩ := List.mem_map.1 hu; rfl) (by unfold maxLen; omega) (by omega) hbase (fun v' w' h1 h2 _ => ?_)
    have h1' : w'.ownsRow base 9 1 v' l.length (l.map Value.string) := by simpa using h1
    obtain ⟨g, c', rfl, ho, hB, hlt, hc⟩ := own_of_row hpos h1'
    refine h _ _ ⟨_, _, [g], rfl, ho, by simp, fun b hb => by obtain rfl := List.mem_singleton.1 hb; exact ⟨hB, hlt⟩, hc⟩ ((Below.refl base w).grown h2 hbase (fun r hr => ?_))
    exact (hown.lt r hr).1
  · obtain rfl : l = [] := List.eq_nil_of_length_eq_zero (by omega)
    refine wpList_app0 hgd s x ho v0 hs (hv0.imp id (fun ⟨g, _, e, _⟩ => ⟨g, e⟩)) ad c hx (h _ _ ?_ (Below.refl _ _))
    rcases hv0 with rfl | ⟨g, _, rfl, _⟩
    · exact ⟨none, 0, [], rfl, .inl ⟨rfl, rfl⟩, List.nodup_nil, (fun _ h => by cases h), Nat.le_refl _⟩
    · exact ⟨some ⟨g, 0, none⟩, 0, [], rfl, .inl ⟨rfl, rfl⟩, List.nodup_nil, (fun _ h => by cases h), Nat.le_refl _⟩
set_option maxHeartbeats 1000000 in
theorem implCopyAny (l : List ByteArray) (a : Option Addr) (c lo hi : Nat) (w : World) (h : TextsAt lo hi w a l) (hn : l.length ≤ 1048576) :
    Calls Tryd.prog 28 #[.slice a l.length c] w fun e w' => ∃ v, e = .returned v ∧ CopyTx w.heap.size l v w' ∧ Below w.heap.size w w' := by
  have HT := Lib.hid h
  clear h
  go_enter Tryd.func28, Tryd.ntmps28
  go_wp2_with (at_builtin; refine wpList_copyTexts rfl _ _ rfl w.heap.size _ rfl (.inl rfl) a c l lo hi rfl HT.out hn (Nat.le_refl _) ?_)
  intro v' w' hc hb
  have HC := Lib.hid hc
  have HB := Lib.hid hb
  obtain ⟨sa, sc, F, rfl, _⟩ := hc
  clear hb
  go_wp2
  go_ret
  exact ⟨_, rfl, HC.out, HB.out⟩
/-- What a loop that appends items to a vector with names keeps. -/
structure AppN (w wr : World) (r b : Nat) (kind : Int) (l : List It) (sa : Option Addr) (sn sc : Nat) (names : List ByteArray) (na : Option Addr) (nc : Nat) (F : List Nat) : Prop where
  res : wr.heap[r]? = some (.cells #[.int .i64 0, .slice none 0 0, .slice none 0 0, .slice none 0 0, .slice none 0 0, .slice none 0 0, .int .i64 0, .int .i64 0] 31 (0, 0))
  vec : wr.heap[b]? = some (.cells #[.int .i64 kind, .slice sa sn sc, .slice none 0 0, .slice na names.length nc, .slice none 0 0, .slice none 0 0, .int .i64 0, .int .i64 0] 31 (0, 0))
  row : wr.ownsRow (b + 1) 67 3 (.slice sa sn sc) l.length (itCells l)
  nms : OwnTxs wr na names F
  cap : names.length ≤ nc
  nd : F.Nodup
  rng : ∀ g ∈ F, w.heap.size ≤ g ∧ g < b ∧ g ≠ r
  below : Below w.heap.size w wr
  o1 : w.heap.size ≤ r
  o2 : r < b
theorem AppN.big {w wr : World} {r b : Nat} {kind : Int} {l : List It} {sa : Option Addr} {sn sc : Nat} {names : List ByteArray} {na : Option Addr} {nc : Nat} {F : List Nat} (h : AppN w wr r b kind l sa sn sc names na nc F) : b < wr.heap.size := (Array.getElem?_eq_some_iff.1 h.vec).1
theorem AppN.keep {w wr w1 : World} {r b : Nat} {kind : Int} {l : List It} {sa : Option Addr} {sn sc : Nat} {names : List ByteArray} {na : Option Addr} {nc : Nat} {F : List Nat} (h : AppN w wr r b kind l sa sn sc names na nc F) (hb : Below wr.heap.size wr w1) : AppN w w1 r b kind l sa sn sc names na nc F :=
  ⟨blk_below hb h.res, blk_below hb h.vec, ownsRow_below h.row hb, h.nms.kept (fun g hg => hb.block g (by have := h.rng g hg; have := h.big; omega)), h.cap, h.nd, h.rng, below_then h.below hb, h.o1, h.o2⟩
theorem AppN.heldC {w wr : World} {r b : Nat} {kind : Int} {l : List It} {sa : Option Addr} {sn sc : Nat} {names : List ByteArray} {na : Option Addr} {nc : Nat} {F : List Nat} (h : AppN w wr r b kind l sa sn sc names na nc F) : HeldC w wr [(r, 31, #[.int .i64 0, .slice none 0 0, .slice none 0 0, .slice none 0 0, .slice none 0 0, .slice none 0 0, .int .i64 0, .int .i64 0]), (b, 31, #[.int .i64 kind, .slice sa sn sc, .slice none 0 0, .slice na names.length nc, .slice none 0 0, .slice none 0 0, .int .i64 0, .int .i64 0])] := heldC_two h.below h.res h.vec
theorem AppN.far {w wr : World} {r b : Nat} {kind : Int} {l : List It} {sa : Option Addr} {sn sc : Nat} {names : List ByteArray} {na : Option Addr} {nc : Nat} {F : List Nat} (h : AppN w wr r b kind l sa sn sc names na nc F) {C : Array Value} {q : Nat × TypeId × Array Value} (hq : q ∈ (wr.heap.size, 67, C) :: [(r, 31, #[.int .i64 0, .slice none 0 0, .slice none 0 0, .slice none 0 0, .slice none 0 0, .slice none 0 0, .int .i64 0, .int .i64 0]), (b, 31, #[.int .i64 kind, .slice sa sn sc, .slice none 0 0, .slice na names.length nc, .slice none 0 0, .slice none 0 0, .int .i64 0, .int .i64 0])]) : ∀ k, (Value.slice sa sn sc).ownBlock = some k → q.1 ≠ k := by
  intro k hk e
  have h1 := h.row.lt k hk
  have h2 := h.o2
  rcases List.mem_cons.1 hq with rfl | hq
  · simp only at e; omega
  rcases List.mem_cons.1 hq with rfl | hq
  · simp only at e; omega
  · obtain rfl := List.mem_singleton.1 hq
    simp only at e; omega
theorem AppN.next {w wr W : World} {r b : Nat} {kind : Int} {l : List It} {z : It} {sa sa' : Option Addr} {sn sc sn' sc' : Nat} {names : List ByteArray} {na : Option Addr} {nc : Nat} {F : List Nat} (h : AppN w wr r b kind l sa sn sc names na nc F)
    (hK : W.heap[b]? = some (.cells (#[.int .i64 kind, .slice sa sn sc, .slice none 0 0, .slice na names.length nc, .slice none 0 0, .slice none 0 0, .int .i64 0, .int .i64 0].setIfInBounds 1 (.slice sa' sn' sc')) 31 (0, 0)))
    (hO : W.ownsRow (b + 1) 67 3 (.slice sa' sn' sc') (l ++ [z]).length (itCells (l ++ [z]))) (hB : Below w.heap.size w W)
    (hR : W.heap[r]? = some (.cells #[.int .i64 0, .slice none 0 0, .slice none 0 0, .slice none 0 0, .slice none 0 0, .slice none 0 0, .int .i64 0, .int .i64 0] 31 (0, 0))) (hF : ∀ g ∈ F, W.heap[g]? = wr.heap[g]?) : AppN w W r b kind (l ++ [z]) sa' sn' sc' names na nc F :=
  ⟨hR, hK, hO, h.nms.kept hF, h.cap, h.nd, h.rng, hB, h.o1, h.o2⟩
/-- The vector itself, where the function ends. -/
theorem AppN.own {w wr : World} {r b : Nat} {kind : Int} {l : List It} {sa : Option Addr} {sn sc : Nat} {names : List ByteArray} {na : Option Addr} {nc : Nat} {F : List Nat} (h : AppN w wr r b kind l sa sn sc names na nc F) : ∃ G, OwnVec wr 1 (mkN kind l names) (.agg #[.int .i64 kind, .slice sa sn sc, .slice none 0 0, .slice na names.length nc, .slice none 0 0, .slice none 0 0, .int .i64 0, .int .i64 0]) G ∧ G.Nodup ∧ ∀ g ∈ G, w.heap.size ≤ g ∧ g < wr.heap.size ∧ g ≠ r := by
  obtain ⟨a, c, Fi, e, ho, hn, hr, hc⟩ := own_of_its h.row
  obtain ⟨rfl, rfl, rfl⟩ : sa = a ∧ sn = l.length ∧ sc = c := by simpa using e
  refine ⟨Fi ++ F, ?_, ?_, ?_⟩
  · show OwnVec wr 1 (.mk kind l [] names [] [] 0 0) _ _
    unfold OwnVec
    exact ⟨sa, sc, none, 0, na, nc, none, 0, none, 0, Fi, [], F, [], [], rfl, by simp, ⟨hc, Nat.le_refl _, h.cap, Nat.le_refl _, Nat.le_refl _⟩, ho, h.nms, .inl ⟨rfl, rfl⟩, .inl ⟨rfl, rfl⟩, .inl ⟨rfl, rfl⟩⟩
  · rw [List.nodup_append]
    exact ⟨hn, h.nd, fun x hx y hy e => by have := hr x hx; have := h.rng y hy; omega⟩
  · intro g hg
    have h1 := h.o1; have h2 := h.o2; have h3 := h.big
    rcases List.mem_append.1 hg with hg | hg
    · have := hr g hg; omega
    · have := h.rng g hg; omega
theorem AppN.fin {w wr : World} {r b : Nat} {kind : Int} {l : List It} {sa : Option Addr} {sn sc : Nat} {names : List ByteArray} {na : Option Addr} {nc : Nat} {F : List Nat} (h : AppN w wr r b kind l sa sn sc names na nc F) : ResV 1 (mkN kind l names) w (.returned (.agg #[.int .i64 kind, .slice sa sn sc, .slice none 0 0, .slice na names.length nc, .slice none 0 0, .slice none 0 0, .int .i64 0, .int .i64 0])) (put8 wr r 0 (.int .i64 kind) (.slice sa sn sc) (.slice none 0 0) (.slice na names.length nc) (.slice none 0 0) (.slice none 0 0) (.int .i64 0) (.int .i64 0)) := by
  obtain ⟨G, ho, hn, hr⟩ := h.own
  exact ⟨_, rfl, ⟨G, ho.kept _ _ _ _ (fun g hg => put8_other (hr g hg).2.2), hn, fun g hg => by rw [put8_size]; have := hr g hg; omega⟩, put8_below h.below h.o1⟩
theorem small_mkN {k : Int} {l : List It} {names : List ByteArray} (h : l.length ≤ 1048576) (ht : ∀ x ∈ l, x.t.size ≤ 1048576) (hn : names.length ≤ 1048576) (hs : ∀ s ∈ names, s.size ≤ 1048576) : Small 1 (mkN k l names) := by
  show Small 1 (.mk k l [] names [] [] 0 0)
  unfold Small
  exact ⟨h, Nat.zero_le _, hn, Nat.zero_le _, Nat.zero_le _, ht, hs, (fun _ h => by cases h), (fun _ h => by cases h), (fun _ h => by cases h)⟩
theorem fits_mkN {k : Int} {l : List It} {names : List ByteArray} (hk : -9223372036854775808 ≤ k ∧ k ≤ 9223372036854775807) (h : l.length ≤ 1048576) (ht : ∀ x ∈ l, InB x) (hn : names.length ≤ 1048576) (hs : ∀ s ∈ names, s.size ≤ 1048576) : Fits 1 (mkN k l names) := by
  show Fits 1 (.mk k l [] names [] [] 0 0)
  unfold Fits
  refine ⟨hk, ⟨by decide, by decide⟩, ⟨by decide, by decide⟩, by unfold maxLen; omega, Nat.zero_le _, by unfold maxLen; omega, Nat.zero_le _, Nat.zero_le _, fun x hx => ht x hx, fun s hx => by have := hs s hx; unfold maxLen; omega, (fun _ h => by cases h), (fun _ h => by cases h), (fun _ h => by cases h)⟩
theorem cnt_mkN (k : Int) (l : List It) (names : List ByteArray) : cntM 1 (mkN k l names) = 3 * l.length + names.length := by
  show cntM 1 (.mk k l [] names [] [] 0 0) = _
  rw [cntM_eq]
  show 3 * l.length + sumN _ 0 + names.length + 0 + 0 = _
  simp [sumN]
end Go.Proofs.YtddebgmjolojeaaDoor

/- The end of an appending region, with all that it leaves alone. -/
namespace Go.Proofs.YtddebgmjolojeaaDoor
open Go.RowKit
set_option maxRecDepth 100000
set_option linter.unusedVariables false

/-- The same, and every other block is as it was. -/
theorem tail_item2 {ops : Array Oper} {Q : Exit → Act → World → Prop} {a : Act} {e : List (Nat × Value)} {w0 w1 : World} {L : List (Nat × TypeId × Array Value)} {i1 i2 i3 i4 d1 d2 d4 b j base : Nat} {x s p : Operand} {v0 c : Value} {C : Array Value} {tt : TypeId} (z : It) {l : List It}
    (ho1 : opAt ops i1 = some (some d1, .buildSlice 28 1 #[(0, x)], none)) (hd1 : Nat.blt d1 a.tmps.size = true) (hx : lookO a e x = .agg #[.int .i64 z.n, .int .i64 z.d, .string z.t])
    (ho2 : opAt ops i2 = some (some d2, .call { callee := .builtin .append, args := [s, .tmp d1].toArray, argTypes := [28, 28].toArray }, none)) (hd2 : Nat.blt d2 a.tmps.size = true) (hs : ∀ u, lookO a ((d1, u) :: e) s = v0)
    (ho4 : opAt ops i4 = some (some d4, .fieldAddr 31 p j, none)) (hd4 : Nat.blt d4 a.tmps.size = true) (hf : Nat.blt j 8 = true) (hp : ∀ u u', lookO a ((d2, u') :: (d1, u) :: e) p = .pointer (some ⟨b, 0, none⟩))
    (ho3 : opAt ops i3 = some (none, .store 28 (.tmp d4) (.tmp d2), none)) (hl : lastK ops i3 = true) (hne : Nat.beq d4 d2 = false)
    (H : HeldC w0 w1 L) (hown : w1.ownsRow base 67 3 v0 l.length (itCells l)) (hn : l.length ≤ 1048576) (hbase : base ≤ w1.heap.size) (hw0 : w0.heap.size ≤ base) (m : (b, tt, C) ∈ L) (hj : C[j]? = some c) (hb : b < base) (hb0 : w0.heap.size ≤ b)
    (hL : ∀ q ∈ L, ∀ k, v0.ownBlock = some k → q.1 ≠ k)
    (h : ∀ v' W, (∃ sa n c, v' = .slice sa n c) → W.heap[b]? = some (.cells (C.setIfInBounds j v') tt (0, 0)) → W.ownsRow base 67 3 v' (l ++ [z]).length (itCells (l ++ [z])) → Below w0.heap.size w0 W → w1.heap.size ≤ W.heap.size →
      (∀ q ∈ L, q.1 ≠ b → W.heap[q.1]? = some (.cells q.2.2 q.2.1 (0, 0))) → (∀ g, g < w1.heap.size → g ≠ b → (∀ k, v0.ownBlock = some k → g ≠ k) → W.heap[g]? = w1.heap[g]?) → Q .normal (putAll a ((d4, .pointer (some ⟨b, j, none⟩)) :: (d2, v') :: (d1, .slice (some ⟨w1.heap.size, 0, none⟩) 1 1) :: e)) W) :
    RunE Tryd.prog ops Q (fun w' => HeldC w0 w' L) [(i1, false), (i2, false), (i4, true), (i3, false)] a e w1 := by
  refine run_build_item z ho1 hd1 rfl hx (fun W1 hW1 => ?_)
  have H1 : HeldC w0 W1 L := hW1 ▸ heldC_alloc H _
  have hK : W1.heap[w1.heap.size]? = some (.cells #[.int .i64 z.n, .int .i64 z.d, .string z.t] 67 (0, 0)) := hW1 ▸ blk_new w1 _ rfl
  have hO : W1.ownsRow base 67 3 v0 l.length (itCells l) := hW1 ▸ ownsRow_below hown (below1 w1 _)
  have hS1 : w1.heap.size ≤ W1.heap.size := hW1 ▸ (below1 w1 _).size
  refine ⟨H1, run_app_item (b := w1.heap.size) z ho2 hd2 rfl (hs _) (look_new _ _) hO hK hn (by omega) (fun v' W2 hO2 hg2 => ?_)⟩
  have H2 : HeldC w0 W2 L := heldC_grown H1 hg2 (fun k hk => ⟨by have := (hO.lt k hk).1; omega, fun q hq => hL q hq k hk⟩)
  have hv : ∃ sa n c, v' = .slice sa n c := by
    obtain ⟨_, h | ⟨g, cap, cur, e, _⟩⟩ := hO2
    · exact ⟨_, _, _, h.1⟩
    · exact ⟨_, _, _, e⟩
  obtain ⟨sa, n, c', rfl⟩ := hv
  refine ⟨H2, runC_partV hf ho4 hd4 rfl (hp _ _) (run_last_field hl ho3 rfl store_its (look_new _ _) (look_next hne) (heldC_at H2 m) hj (fun W3 hW3 => run_done (h _ W3 ⟨_, _, _, rfl⟩ ?_ ?_ ?_ ?_ ?_ ?_)))⟩
  · subst hW3; exact Joins.block_setCell (heldC_at H2 m) _
  · subst hW3; exact ownsRow_set hO2 hb
  · subst hW3; exact H2.1.setCell (p := ⟨b, j, none⟩) hb0 _
  · subst hW3; have := hg2.size; simp; omega
  · intro q hq hne; subst hW3; rw [Below.heap_setCell _ _ _ _ hne]; exact H2.2 q hq
  · intro g hg hne hk; subst hW3; rw [Below.heap_setCell _ _ _ _ hne, hg2.block g (by omega) (fun e => hk g e.symm rfl), hW1]; exact (below1 w1 _).block g hg
end Go.Proofs.YtddebgmjolojeaaDoor

/- Logical values of vectors. -/
namespace Go.Proofs.YtddebgmjolojeaaDoor
open Go.RowKit
set_option maxRecDepth 100000
set_option linter.unusedVariables false

/-- "invalid vector", "non-logical argument" -/
def badB : ByteArray := ⟨#[105, 110, 118, 97, 108, 105, 100, 32, 118, 101, 99, 116, 111, 114]⟩
def nonLogB : ByteArray := ⟨#[110, 111, 110, 45, 108, 111, 103, 105, 99, 97, 108, 32, 97, 114, 103, 117, 109, 101, 110, 116]⟩
/-- Does a vector count as numbers? -/
def Counts (v : Vec) : Prop := match v with | .mk k _ _ _ _ levels _ _ => k ≤ 2 ∧ levels.length = 0
def truthI (x : It) : Int := if x.d = 0 then 2 else if x.n = 0 then 0 else 1
/-- An element of a vector that counts as numbers. -/
structure NumIt (x : It) : Prop where
  t : x.t = ⟨#[]⟩
  n0 : -999999999 ≤ x.n
  n1 : x.n ≤ 999999999
  d0 : 0 ≤ x.d
  d1 : x.d ≤ 999999999
  z : x.d = 0 → x = noI
end Go.Proofs.YtddebgmjolojeaaDoor

/- How the reference makes a number. -/
namespace Go.Proofs.YtddebgmjolojeaaDoor
set_option maxRecDepth 100000
open Go.RowKit
set_option linter.unusedVariables false

end Go.Proofs.YtddebgmjolojeaaDoor

/- How the program makes a number. -/
namespace Go.Proofs.YtddebgmjolojeaaDoor
set_option maxRecDepth 100000
open Go.RowKit
set_option linter.unusedVariables false

end Go.Proofs.YtddebgmjolojeaaDoor

/- NumberVector on both sides. -/
namespace Go.Proofs.YtddebgmjolojeaaDoor
open Go.RowKit
set_option maxRecDepth 100000
set_option linter.unusedVariables false

def numI (x : Int) : It := ⟨(mkI x 1).n, (mkI x 1).d, ⟨#[]⟩⟩
end Go.Proofs.YtddebgmjolojeaaDoor

/- SequenceOf on both sides. -/
namespace Go.Proofs.YtddebgmjolojeaaDoor
open Go.RowKit
set_option maxRecDepth 100000
set_option linter.unusedVariables false

def InW (x : Int) : Prop := -999999999 ≤ x ∧ x ≤ 999999999
def SeqOk (a b : Int) : Prop := InW a ∧ InW b ∧ (b - a).natAbs < 40
def seqI (a b : Int) (i : Nat) : Int := if a ≤ b then a + (i : Int) else a - (i : Int)
def seqG (a b : Int) (i : Nat) : It := ⟨seqI a b i, 1, ⟨#[]⟩⟩
noncomputable def seqV (a b : Int) : Vec := match bB (SeqOk a b) with | true => vecOf 2 (itF (seqG a b) ((b - a).natAbs + 1)) | false => noV
noncomputable def seqS (a b : Int) : ByteArray := match bB (SeqOk a b) with | true => ⟨#[]⟩ | false => bigB
/-- -1, 0 or 1. -/
def cmpZ (x y : Int) : Int := if x < y then -1 else if y < x then 1 else 0
def intsF (f : Nat → Int) (n : Nat) : List Value := (List.range n).map (fun i => .int .i64 (f i))
theorem intsF_succ (f : Nat → Int) (n : Nat) : intsF f n ++ [.int .i64 (f n)] = intsF f (n + 1) := by unfold intsF; rw [List.range_succ, List.map_append]; rfl
/-- A row of the call's own that holds ints. -/
theorem ints_of_row {w : World} {B m : Nat} {v : Value} {f : Nat → Int} (h : w.ownsRow B 3 1 v m (intsF f m)) : ∃ sa c, v = .slice sa m c ∧ IntsAt w.heap.size w sa m f := by
  obtain ⟨_, h⟩ := h
  rcases h with ⟨rfl, rfl⟩ | ⟨g, cap, cur, rfl, hB, hg, hc, _, hs, ht⟩
  · exact ⟨none, 0, rfl, fun i hi => absurd hi (Nat.not_lt_zero _)⟩
  · refine ⟨some ⟨g, 0, none⟩, cap, rfl, fun i hi => ⟨g, 0, rfl, (Array.getElem?_eq_some_iff.1 hg).1, ?_⟩⟩
    rw [Nat.zero_add]
    refine cellOf hg ?_
    have h1 : (cur.toList.take (m * 1))[i]? = (intsF f m)[i]? := by rw [ht]
    rw [List.getElem?_take_of_lt (by omega), Array.getElem?_toList] at h1
    rw [h1]; unfold intsF; simp [hi]
/-- What the program's loop keeps: the result's block, the ints so far. -/
structure IntL (w wr : World) (f : Nat → Int) (k : Nat) (v : Value) : Prop where
  res : wr.heap[w.heap.size]? = some (.cells #[.int .i64 0, .slice none 0 0, .slice none 0 0, .slice none 0 0, .slice none 0 0, .slice none 0 0, .int .i64 0, .int .i64 0] 31 (0, 0))
  row : wr.ownsRow (w.heap.size + 1) 3 1 v k (intsF f k)
  below : Below w.heap.size w wr
theorem IntL.next {w wr w1 : World} {f : Nat → Int} {k : Nat} {z : Int} {v v' : Value} {o : Obj} (h : IntL w wr f k v) (hg : (wr.alloc o).grownBy w1 v.ownBlock) (hr : w1.ownsRow (w.heap.size + 1) 3 1 v' (k + 1) (intsF f k ++ [.int .i64 z])) (hz : z = f k) : IntL w w1 f (k + 1) v' := by
  subst hz
  have hlt := (Array.getElem?_eq_some_iff.1 h.res).1
  refine ⟨?_, intsF_succ f k ▸ hr, ?_⟩
  · refine (hg.block _ (by simp; omega) (fun e => ?_)).trans (blk_old h.res)
    have := (h.row.lt _ e.symm).1
    omega
  · exact (h.below.alloc h.below.size o).grown hg (by have := h.below.size; simp; omega) (fun r hr' => by have := (h.row.lt r hr').1; omega)
theorem IntL.start (w : World) (f : Nat → Int) : IntL w (w.alloc (.cells #[.int .i64 0, .slice none 0 0, .slice none 0 0, .slice none 0 0, .slice none 0 0, .slice none 0 0, .int .i64 0, .int .i64 0] 31)) f 0 (.slice none 0 0) := ⟨blk_new w _ rfl, ⟨rfl, .inl ⟨rfl, rfl⟩⟩, below1 w _⟩
end Go.Proofs.YtddebgmjolojeaaDoor

/- The reference's view of a vector as numbers and as logical values. -/
namespace Go.Proofs.YtddebgmjolojeaaDoor
open Go.RowKit
set_option maxRecDepth 100000
set_option linter.unusedVariables false

/-- What a loop that appends ints keeps. -/
structure IntR (w wr : World) (f : Nat → Int) (k : Nat) (v : Value) : Prop where
  row : wr.ownsRow w.heap.size 3 1 v k (intsF f k)
  below : Below w.heap.size w wr
theorem IntR.next {w wr w1 : World} {f : Nat → Int} {k : Nat} {z : Int} {v v' : Value} {o : Obj} (h : IntR w wr f k v) (hg : (wr.alloc o).grownBy w1 v.ownBlock) (hr : w1.ownsRow w.heap.size 3 1 v' (k + 1) (intsF f k ++ [.int .i64 z])) (hz : z = f k) : IntR w w1 f (k + 1) v' := by
  subst hz
  exact ⟨intsF_succ f k ▸ hr, (h.below.alloc h.below.size o).grown hg (by have := h.below.size; simp; omega) (fun r hr' => (h.row.lt r hr').1)⟩
theorem IntR.below' {w wr w1 : World} {f : Nat → Int} {k : Nat} {v : Value} (h : IntR w wr f k v) (hb : Below wr.heap.size wr w1) : IntR w w1 f k v := ⟨ownsRow_below h.row hb, below_then h.below hb⟩
theorem specBad (w : World) : Calls Tryd.prog 35 #[] w fun e w' => e = .returned (.tuple #[.agg #[.int .i64 0, .slice none 0 0, .slice none 0 0, .slice none 0 0, .slice none 0 0, .slice none 0 0, .int .i64 0, .int .i64 0], .string badB]) ∧ Below w.heap.size w w' := by
  go_enter Tryd.func35, Tryd.ntmps35
  go_wp2
  exact vec_ret0S rfl rfl rfl rfl (blk_new w _ rfl) ⟨rfl, below1 w _⟩
end Go.Proofs.YtddebgmjolojeaaDoor

/- Ints that are appended in a region that draws its order; remainders. -/
namespace Go.Proofs.YtddebgmjolojeaaDoor
open Go.RowKit
set_option maxRecDepth 100000
set_option linter.unusedVariables false

section
variable {P : Program} {ops : Array Oper} {Q : Exit → Act → World → Prop} {S : World → Prop}
variable {r : List (Nat × Bool)} {a : Act} {e : List (Nat × Value)} {w : World} {i d : Nat} {g : Option (Nat × Bool)} {v : Value}
end
section
variable {ops : Array Oper} {Q : Exit → Act → World → Prop} {S : World → Prop}
variable {r : List (Nat × Bool)} {a : Act} {e : List (Nat × Value)} {w : World} {i d : Nat} {g : Option (Nat × Bool)} {v : Value}
theorem IntR.keep {w wr w1 : World} {f : Nat → Int} {k : Nat} {v : Value} (h : IntR w wr f k v) (hb : Below wr.heap.size wr w1) : IntR w w1 f k v := h.below' hb
end
end Go.Proofs.YtddebgmjolojeaaDoor

/- Calls by a function's value, items at an index, items that are appended to a local slice: operations of a region that draws its order. -/
namespace Go.Proofs.YtddebgmjolojeaaDoor
open Go.RowKit
set_option maxRecDepth 100000
set_option linter.unusedVariables false

section
variable {P : Program} {ops : Array Oper} {Q : Exit → Act → World → Prop} {S : World → Prop}
variable {r : List (Nat × Bool)} {a : Act} {e : List (Nat × Value)} {w : World} {i d : Nat} {g : Option (Nat × Bool)} {v : Value}
end
section
variable {ops : Array Oper} {Q : Exit → Act → World → Prop} {S : World → Prop} {w0 : World} {L : List (Nat × TypeId × Array Value)}
variable {r : List (Nat × Bool)} {a : Act} {e : List (Nat × Value)} {w : World} {i d : Nat} {g : Option (Nat × Bool)} {v : Value}
/-- What a loop that appends items to a local slice keeps. -/
structure ItR (w wr : World) (l : List It) (v : Value) : Prop where
  row : wr.ownsRow w.heap.size 67 3 v l.length (itCells l)
  below : Below w.heap.size w wr
theorem ItR.keep {w wr w1 : World} {l : List It} {v : Value} (h : ItR w wr l v) (hb : Below wr.heap.size wr w1) : ItR w w1 l v := ⟨ownsRow_below h.row hb, below_then h.below hb⟩
end
end Go.Proofs.YtddebgmjolojeaaDoor

/- Chapter 7: problems, the first equal element. -/
namespace Go.Proofs.YtddebgmjolojeaaDoor
open Go.RowKit
set_option maxRecDepth 100000
set_option linter.unusedVariables false

/-- "not an atomic vector" and its like. -/
def natB : ByteArray := ⟨#[110, 111, 116, 32, 97, 110, 32, 97, 116, 111, 109, 105, 99, 32, 118, 101, 99, 116, 111, 114]⟩
def nlgB : ByteArray := ⟨#[110, 111, 116, 32, 97, 32, 108, 111, 103, 105, 99, 97, 108, 32, 118, 101, 99, 116, 111, 114]⟩
def nelB : ByteArray := ⟨#[110, 111, 116, 32, 97, 32, 118, 101, 99, 116, 111, 114, 32, 111, 102, 32, 101, 108, 101, 109, 101, 110, 116, 115]⟩
def kindV (v : Vec) : Int := match v with | .mk k _ _ _ _ _ _ _ => k
/-- The problem of a vector that must be atomic or NULL. -/
noncomputable def atmS (v : Vec) : ByteArray := match bB (ValidV v), bB (kindV v ≤ 3) with | false, _ => badB | true, false => natB | true, true => ⟨#[]⟩
/-- Is r the first place of x in l, or -1? -/
def FirstIs (l : List It) (x : It) (r : Int) : Prop := (r = -1 ∧ ∀ i, i < l.length → l.getD i noI ≠ x) ∨ ∃ j : Nat, r = j ∧ j < l.length ∧ l.getD j noI = x ∧ ∀ i, i < j → l.getD i noI ≠ x
/-- Is there an equal element ahead? -/
def DupAt (l : List It) (i : Nat) : Prop := ∃ j, j < i ∧ l.getD j noI = l.getD i noI
section
variable {ops : Array Oper} {Q : Exit → Act → World → Prop} {S : World → Prop}
variable {r : List (Nat × Bool)} {a : Act} {e : List (Nat × Value)} {w : World} {i d : Nat} {g : Option (Nat × Bool)}
end
theorem ItemsAt.take {lo hi : Nat} {w : World} {a : Option Addr} {l : List It} (h : ItemsAt lo hi w a l) (k : Nat) : ItemsAt lo hi w a (l.take k) := fun i x hx => by
  rw [List.getElem?_take] at hx
  split at hx
  · exact h i x hx
  · cases hx
end Go.Proofs.YtddebgmjolojeaaDoor

/- The implicit class of a vector, both sides. -/
namespace Go.Proofs.YtddebgmjolojeaaDoor
open Go.RowKit
set_option maxRecDepth 100000
set_option linter.unusedVariables false

def nameB (k : Int) : ByteArray := if k = 0 then ⟨#[78, 85, 76, 76]⟩ else if k = 1 then ⟨#[108, 111, 103, 105, 99, 97, 108]⟩ else if k = 2 then ⟨#[110, 117, 109, 101, 114, 105, 99]⟩ else if k = 3 then ⟨#[99, 104, 97, 114, 97, 99, 116, 101, 114]⟩ else if k = 4 then ⟨#[108, 105, 115, 116]⟩ else ⟨#[102, 117, 110, 99, 116, 105, 111, 110]⟩
noncomputable def clsV (v : Vec) : List ByteArray := match bB (ValidV v), v with
  | true, .mk k _ _ _ cls _ _ _ => if cls.length = 0 then [nameB k] else cls
  | false, _ => []
/-- What both sides answer: a list of texts in a block of its own. -/
def ClassAns (v : Vec) (w : World) (e : Ending) (w' : World) : Prop := ∃ a c F, e = .returned (.slice a (clsV v).length c) ∧ OwnTxs w' a (clsV v) F ∧ F.Nodup ∧ (∀ b ∈ F, w.heap.size ≤ b ∧ b < w'.heap.size) ∧ Below w.heap.size w w'
end Go.Proofs.YtddebgmjolojeaaDoor

/- Lemmas for laws whose result lies in memory. -/
namespace Go.Proofs.YtddebgmjolojeaaDoor
open Go.RowKit
set_option maxRecDepth 100000
set_option linter.unusedVariables false

theorem sumN_le2 {f g : Nat → Nat} {n : Nat} (h : ∀ i, i < n → f i ≤ 3 * g i + 3) : sumN f n ≤ 3 * sumN g n + 3 * n := by
  induction n with
  | zero => simp [sumN]
  | succ n ih =>
    have h1 := ih (fun i hi => h i (by omega))
    have h2 := h n (by omega)
    simp only [sumN]
    omega
theorem cntM_le : ∀ (d : Nat) (v : Vec), cntM d v ≤ 3 * wV d v
  | 0, v => Nat.zero_le _
  | d + 1, .mk k items parts names cls levels code env => by
    rw [cntM_eq]
    have e : wV (d + 1) (.mk k items parts names cls levels code env) = (items.length + sumF (txtI items) items.length) + (parts.length + sumN (fun i => wV d (parts.getD i noV)) parts.length) + (names.length + sumF (txtS names) names.length) + (cls.length + sumF (txtS cls) cls.length) + (levels.length + sumF (txtS levels) levels.length) := rfl
    rw [e]
    have h : cntP d parts parts.length ≤ 3 * sumN (fun i => wV d (parts.getD i noV)) parts.length + 3 * parts.length := sumN_le2 (fun i _ => by have := cntM_le d (parts.getD i noV); omega)
    omega
theorem OwnTxs.texts {w : World} {a : Option Addr} {l : List ByteArray} {F : List Nat} {hi : Nat} (h : OwnTxs w a l F) (hF : ∀ b ∈ F, b < hi) : TextsAt 0 hi w a l := h.at_ (fun b hb => ⟨Nat.zero_le _, hF b hb⟩)
end Go.Proofs.YtddebgmjolojeaaDoor

/- Laws whose argument is a vector and whose result is one. -/
namespace Go.Proofs.YtddebgmjolojeaaDoor
open Go.RowKit
set_option maxRecDepth 100000
set_option linter.unusedVariables false

theorem VecAt.agg {lo hi : Nat} {w : World} {d : Nat} {v : Vec} {y : Value} (h : VecAt lo hi w d v y) : ∃ (k : Int) (a1 : Option Addr) (n1 m1 : Nat) (a2 : Option Addr) (n2 m2 : Nat) (a3 : Option Addr) (n3 m3 : Nat) (a4 : Option Addr) (n4 m4 : Nat) (a5 : Option Addr) (n5 m5 : Nat) (code env : Int), y = .agg #[.int .i64 k, .slice a1 n1 m1, .slice a2 n2 m2, .slice a3 n3 m3, .slice a4 n4 m4, .slice a5 n5 m5, .int .i64 code, .int .i64 env] := by
  obtain ⟨k, items, parts, names, cls, levels, code, env⟩ := v
  obtain ⟨d', ai, ci, ap, cp, an, cn, ac, cc, al, cl, ed, e, _⟩ := vecAt_open h
  exact ⟨_, _, _, _, _, _, _, _, _, _, _, _, _, _, _, _, _, _, e⟩
/-- The zero value, or a vector of items and names that fit. -/
def PlainN (V : Vec) : Prop := V = noV ∨ ∃ k l names, V = mkN k l names ∧ (-9223372036854775808 ≤ k ∧ k ≤ 9223372036854775807) ∧ l.length ≤ 40 ∧ (∀ x ∈ l, InB x ∧ x.t.size ≤ 1048576) ∧ names.length ≤ 1048576 ∧ ∀ s ∈ names, s.size ≤ 1048576
theorem PlainN.small {V : Vec} (h : PlainN V) : Small 1 V := by
  rcases h with rfl | ⟨k, l, names, rfl, hk, hl, hx, hn, hs⟩
  · exact small_noV
  · exact small_mkN (by omega) (fun x h => (hx x h).2) hn hs
theorem PlainN.fits {V : Vec} (h : PlainN V) : Fits 1 V := by
  rcases h with rfl | ⟨k, l, names, rfl, hk, hl, hx, hn, hs⟩
  · exact fits_noV
  · exact fits_mkN hk (by omega) (fun x h => (hx x h).1) hn hs
theorem PlainN.cnt {V : Vec} (h : PlainN V) : 1 + cntM 1 V ≤ 8000000 := by
  rcases h with rfl | ⟨k, l, names, rfl, hk, hl, hx, hn, hs⟩
  · rw [cnt_noV]; omega
  · rw [cnt_mkN]; omega
end Go.Proofs.YtddebgmjolojeaaDoor

/- Rows of vectors that a call builds by append. -/
namespace Go.Proofs.YtddebgmjolojeaaDoor
open Go.RowKit
set_option maxRecDepth 100000
set_option linter.unusedVariables false

def cl8 : Value → List Value
  | .agg cs => cs.toList
  | _ => []
def Is8 (v : Value) : Prop := ∃ c0 c1 c2 c3 c4 c5 c6 c7, v = .agg #[c0, c1, c2, c3, c4, c5, c6, c7]
theorem OwnVec.is8 {w : World} {d : Nat} {v : Vec} {y : Value} {F : List Nat} (h : OwnVec w d v y F) : Is8 y := by
  obtain ⟨k, a1, n1, m1, a2, n2, m2, a3, n3, m3, a4, n4, m4, a5, n5, m5, code, env, rfl⟩ := h.agg
  exact ⟨_, _, _, _, _, _, _, _, rfl⟩
theorem flat8_len : ∀ vals : List Value, (∀ v ∈ vals, Is8 v) → (vals.flatMap cl8).length = vals.length * 8
  | [], _ => rfl
  | v :: vals, h => by
    obtain ⟨c0, c1, c2, c3, c4, c5, c6, c7, rfl⟩ := h v (List.mem_cons_self ..)
    have := flat8_len vals (fun x hx => h x (List.mem_cons_of_mem _ hx))
    simp only [List.flatMap_cons, List.length_append, this, cl8, List.length_cons, List.length_nil]
    omega
theorem flat8_at : ∀ (vals : List Value), (∀ v ∈ vals, Is8 v) → ∀ i, i < vals.length → ∃ c0 c1 c2 c3 c4 c5 c6 c7, vals.getD i undef = .agg #[c0, c1, c2, c3, c4, c5, c6, c7] ∧
    (vals.flatMap cl8)[i * 8]? = some c0 ∧ (vals.flatMap cl8)[i * 8 + 1]? = some c1 ∧ (vals.flatMap cl8)[i * 8 + 2]? = some c2 ∧ (vals.flatMap cl8)[i * 8 + 3]? = some c3 ∧ (vals.flatMap cl8)[i * 8 + 4]? = some c4 ∧ (vals.flatMap cl8)[i * 8 + 5]? = some c5 ∧ (vals.flatMap cl8)[i * 8 + 6]? = some c6 ∧ (vals.flatMap cl8)[i * 8 + 7]? = some c7
  | [], _, _, h => by cases h
  | v :: vals, h, 0, _ => by
    obtain ⟨c0, c1, c2, c3, c4, c5, c6, c7, rfl⟩ := h v (List.mem_cons_self ..)
    exact ⟨c0, c1, c2, c3, c4, c5, c6, c7, rfl, rfl, rfl, rfl, rfl, rfl, rfl, rfl, rfl⟩
  | v :: vals, h, i + 1, hi => by
    obtain ⟨d0, d1, d2, d3, d4, d5, d6, d7, rfl⟩ := h v (List.mem_cons_self ..)
    obtain ⟨c0, c1, c2, c3, c4, c5, c6, c7, e, m⟩ := flat8_at vals (fun x hx => h x (List.mem_cons_of_mem _ hx)) i (by simpa using hi)
    refine ⟨c0, c1, c2, c3, c4, c5, c6, c7, by simpa using e, ?_⟩
    have key : ∀ j, ((Value.agg #[d0, d1, d2, d3, d4, d5, d6, d7] :: vals).flatMap cl8)[(i + 1) * 8 + j]? = (vals.flatMap cl8)[i * 8 + j]? := fun j => by
      have e1 : (i + 1) * 8 + j = (i * 8 + j) + 8 := by omega
      rw [e1]; rfl
    have k0 := key 0
    simp only [Nat.add_zero] at k0
    rw [k0, key 1, key 2, key 3, key 4, key 5, key 6, key 7]
    exact m
/-- A slice of vectors, each with its own blocks. -/
def OwnParts (w : World) (d : Nat) (v : Value) (parts : List Vec) (F : List Nat) : Prop := ∃ ap cp, v = .slice ap parts.length cp ∧ parts.length ≤ cp ∧
  ((parts = [] ∧ F = []) ∨ ∃ b C, ∃ Fs : List (List Nat), F = b :: Fs.flatten ∧ Fs.length = parts.length ∧ ap = some ⟨b, 0, none⟩ ∧ w.heap[b]? = some (.cells C 31 (0, 0)) ∧ parts.length * 8 ≤ C.size ∧
    ∀ i, i < parts.length → ∃ val, OwnVec w d (parts.getD i noV) val (Fs.getD i []) ∧ Eight C i val)
/-- What a loop that appends vectors keeps. -/
structure RowV (w wr : World) (d : Nat) (parts : List Vec) (k : Nat) (v : Value) : Prop where
  ex : ∃ (vals : List Value) (Fs : List (List Nat)), vals.length = k ∧ Fs.length = k ∧ wr.ownsRow w.heap.size 31 8 v k (vals.flatMap cl8) ∧
    (∀ i, i < k → OwnVec wr d (parts.getD i noV) (vals.getD i undef) (Fs.getD i [])) ∧ Fs.flatten.Nodup ∧ (∀ b ∈ Fs.flatten, w.heap.size ≤ b ∧ b < wr.heap.size ∧ v.ownBlock ≠ some b)
  below : Below w.heap.size w wr
theorem RowV.start (w : World) (d : Nat) (parts : List Vec) : RowV w w d parts 0 (.slice none 0 0) :=
  ⟨⟨[], [], rfl, rfl, ⟨rfl, .inl ⟨rfl, rfl⟩⟩, fun i h => absurd h (Nat.not_lt_zero _), List.nodup_nil, fun b h => by cases h⟩, Below.refl _ _⟩
theorem RowV.is8 {vals : List Value} {k d : Nat} {parts : List Vec} {Fs : List (List Nat)} {wr : World} (hl : vals.length = k) (h : ∀ i, i < k → OwnVec wr d (parts.getD i noV) (vals.getD i undef) (Fs.getD i [])) : ∀ v ∈ vals, Is8 v := by
  intro v hv
  obtain ⟨i, hi, e⟩ := mem_getD (z := undef) hv
  rw [← e]
  exact (h i (by omega)).is8
theorem RowV.row {w wr : World} {d k : Nat} {parts : List Vec} {v : Value} (h : RowV w wr d parts k v) : ∃ xs, wr.ownsRow w.heap.size 31 8 v k xs := by
  obtain ⟨vals, Fs, _, _, hr, _⟩ := h.ex
  exact ⟨_, hr⟩
/-- Behind the copy of an element and the slice of one. -/
theorem RowV.keep {w wr w1 : World} {d k : Nat} {parts : List Vec} {v : Value} (h : RowV w wr d parts k v) (hb : Below wr.heap.size wr w1) : RowV w w1 d parts k v := by
  obtain ⟨vals, Fs, h1, h2, h3, h4, h5, h6⟩ := h.ex
  exact ⟨⟨vals, Fs, h1, h2, ownsRow_below h3 hb, fun i hi => (h4 i hi).kept _ _ _ _ (fun b hb' => hb.block b (h6 b (mem_flat (by omega) hb')).2.1), h5, fun b hb' => ⟨(h6 b hb').1, Nat.lt_of_lt_of_le (h6 b hb').2.1 hb.size, (h6 b hb').2.2⟩⟩, below_then h.below hb⟩
theorem RowV.next {w wr w1 w2 : World} {d k : Nat} {parts : List Vec} {v v' : Value} {c0 c1 c2 c3 c4 c5 c6 c7 : Value} {s1 : Nat} (h : RowV w wr d parts k v) (ho : Own d (parts.getD k noV) (.agg #[c0, c1, c2, c3, c4, c5, c6, c7]) s1 w1.heap.size w1) (hs : wr.heap.size ≤ s1) (hb : Below wr.heap.size wr w1)
    (hg : (w1.alloc (.cells #[c0, c1, c2, c3, c4, c5, c6, c7] 31)).grownBy w2 v.ownBlock) (hr : ∀ xs, wr.ownsRow w.heap.size 31 8 v k xs → w2.ownsRow w.heap.size 31 8 v' (k + 1) (xs ++ [c0, c1, c2, c3, c4, c5, c6, c7])) (hv : v'.ownBlock = v.ownBlock ∨ v'.ownBlock = some (w1.alloc (.cells #[c0, c1, c2, c3, c4, c5, c6, c7] 31)).heap.size) : RowV w w2 d parts (k + 1) v' := by
  obtain ⟨vals, Fs, h1, h2, h3, h4, h5, h6⟩ := h.ex
  obtain ⟨F, g1, g2, g3⟩ := ho.out
  have hsz : (w1.alloc (.cells #[c0, c1, c2, c3, c4, c5, c6, c7] 31)).heap.size = w1.heap.size + 1 := by simp
  have hbs := hb.size
  have hown : ∀ j, v.ownBlock = some j → w.heap.size ≤ j ∧ j < wr.heap.size := h3.lt
  have keep : ∀ b, b < w1.heap.size → v.ownBlock ≠ some b → w2.heap[b]? = w1.heap[b]? := fun b hb1 hb2 => (hg.block b (by omega) (fun e => hb2 e.symm)).trans ((below1 w1 _).block b hb1)
  have old : ∀ b ∈ Fs.flatten, w2.heap[b]? = wr.heap[b]? := fun b hb' => (keep b (by have := h6 b hb'; omega) (h6 b hb').2.2).trans (hb.block b (h6 b hb').2.1)
  have new : ∀ b ∈ F, w2.heap[b]? = w1.heap[b]? := fun b hb' => keep b (g3 b hb').2 (fun e => by have := hown b e; have := g3 b hb'; omega)
  refine ⟨⟨vals ++ [Value.agg #[c0, c1, c2, c3, c4, c5, c6, c7]], Fs ++ [F], by simp [h1], by simp [h2], ?_, fun i hi => ?_, ?_, fun b hb' => ?_⟩, ?_⟩
  · have := hr _ h3
    rw [List.flatMap_append]
    exact this
  · by_cases e : i = k
    · subst e
      have e1 : (vals ++ [Value.agg #[c0, c1, c2, c3, c4, c5, c6, c7]]).getD i undef = .agg #[c0, c1, c2, c3, c4, c5, c6, c7] := by rw [List.getD_eq_getElem?_getD, List.getElem?_append_right (by omega)]; simp [h1]
      have e2 : (Fs ++ [F]).getD i [] = F := by rw [List.getD_eq_getElem?_getD, List.getElem?_append_right (by omega)]; simp [h2]
      rw [e1, e2]
      exact g1.kept _ _ _ _ new
    · have e1 : (vals ++ [Value.agg #[c0, c1, c2, c3, c4, c5, c6, c7]]).getD i undef = vals.getD i undef := by rw [List.getD_eq_getElem?_getD, List.getD_eq_getElem?_getD, List.getElem?_append_left (by omega)]
      have e2 : (Fs ++ [F]).getD i [] = Fs.getD i [] := by rw [List.getD_eq_getElem?_getD, List.getD_eq_getElem?_getD, List.getElem?_append_left (by omega)]
      rw [e1, e2]
      exact (h4 i (by omega)).kept _ _ _ _ (fun b hb' => old b (mem_flat (by omega) hb'))
  · rw [List.flatten_append, List.nodup_append]
    refine ⟨h5, by simpa using g2, fun x hx y hy e => ?_⟩
    have h7 := h6 x hx
    have h8 := g3 y (by simpa using hy)
    omega
  · have hw2 := hg.size
    rw [List.flatten_append, List.mem_append] at hb'
    rcases hb' with hb' | hb'
    · have h7 := h6 b hb'
      refine ⟨h7.1, by omega, fun e => ?_⟩
      rcases hv with hv | hv
      · exact h7.2.2 (hv ▸ e)
      · rw [e, hsz] at hv; have := Option.some.inj hv; omega
    · have hb'' : b ∈ F := by simpa using hb'
      have h7 := g3 b hb''
      have h8 := h.below.size
      refine ⟨by omega, by omega, fun e => ?_⟩
      rcases hv with hv | hv
      · have := hown b (hv ▸ e); omega
      · rw [e, hsz] at hv; have := Option.some.inj hv; omega
  · have h8 := h.below.size
    exact ((below_then h.below hb).alloc (by omega) _).grown hg (by omega) (fun r hr' => (hown r hr').1)
theorem RowV.parts {w wr : World} {d : Nat} {parts : List Vec} {v : Value} (h : RowV w wr d parts parts.length v) : ∃ F, OwnParts wr d v parts F ∧ F.Nodup ∧ ∀ b ∈ F, w.heap.size ≤ b ∧ b < wr.heap.size := by
  obtain ⟨vals, Fs, h1, h2, ⟨hl, h3⟩, h4, h5, h6⟩ := h.ex
  rcases h3 with ⟨rfl, h0⟩ | ⟨g, cap, cur, rfl, hB, hg, hc, _, hs, ht⟩
  · have hp : parts = [] := List.eq_nil_of_length_eq_zero h0
    subst hp
    exact ⟨[], ⟨none, 0, rfl, Nat.le_refl _, .inl ⟨rfl, rfl⟩⟩, List.nodup_nil, fun _ hb => by cases hb⟩
  · have hgl := (Array.getElem?_eq_some_iff.1 hg).1
    refine ⟨g :: Fs.flatten, ⟨_, cap, rfl, hc, .inr ⟨g, cur, Fs, rfl, h2, rfl, hg, by omega, fun i hi => ⟨_, h4 i hi, ?_⟩⟩⟩, ?_, ?_⟩
    · obtain ⟨c0, c1, c2, c3, c4, c5, c6, c7, e, m0, m1, m2, m3, m4, m5, m6, m7⟩ := flat8_at vals (RowV.is8 h1 h4) i (by omega)
      have key : ∀ j, j < parts.length * 8 → cur[j]? = (vals.flatMap cl8)[j]? := fun j hj => by
        rw [← ht, List.getElem?_take_of_lt hj, Array.getElem?_toList]
      refine ⟨c0, c1, c2, c3, c4, c5, c6, c7, e, ?_, ?_, ?_, ?_, ?_, ?_, ?_, ?_⟩
      · rw [key _ (by omega)]; exact m0
      · rw [key _ (by omega)]; exact m1
      · rw [key _ (by omega)]; exact m2
      · rw [key _ (by omega)]; exact m3
      · rw [key _ (by omega)]; exact m4
      · rw [key _ (by omega)]; exact m5
      · rw [key _ (by omega)]; exact m6
      · rw [key _ (by omega)]; exact m7
    · rw [List.nodup_cons]
      exact ⟨fun hm => (h6 g hm).2.2 rfl, h5⟩
    · intro b hb
      rcases List.mem_cons.1 hb with rfl | hb
      · exact ⟨hB, hgl⟩
      · exact ⟨(h6 b hb).1, (h6 b hb).2.1⟩
end Go.Proofs.YtddebgmjolojeaaDoor

/- The program's copies of vectors. -/
namespace Go.Proofs.YtddebgmjolojeaaDoor
open Go.RowKit
set_option maxRecDepth 100000
set_option linter.unusedVariables false

theorem OwnParts.kept {w w1 : World} {d : Nat} {v : Value} {parts : List Vec} {F : List Nat} (h : OwnParts w d v parts F) (k : ∀ b ∈ F, w1.heap[b]? = w.heap[b]?) : OwnParts w1 d v parts F := by
  obtain ⟨ap, cp, e, hc, h⟩ := h
  refine ⟨ap, cp, e, hc, h.imp id ?_⟩
  rintro ⟨b, C, Fs, rfl, hl, ea, hb, hn, hp⟩
  exact ⟨b, C, Fs, rfl, hl, ea, (k b (by simp)).trans hb, hn, fun i hi => by
    obtain ⟨val, hv, m⟩ := hp i hi
    exact ⟨val, hv.kept _ _ _ _ (fun b' hb' => k b' (by have := mem_flat (by omega) hb'; simp only [List.mem_cons]; exact .inr this)), m⟩⟩
theorem ownsRow_same {w : World} {base : Nat} {el : TypeId} {size n : Nat} {v : Value} {xs ys : List Value} (h : w.ownsRow base el size v n xs) (k : w.ownsRow base el size v n ys) : xs = ys := by
  obtain ⟨hl, h⟩ := h
  obtain ⟨kl, k⟩ := k
  rcases h with ⟨rfl, h0⟩ | ⟨g, cap, cur, rfl, hB, hg, hc, _, hs, ht⟩
  · subst h0
    have hx : xs = [] := List.eq_nil_of_length_eq_zero (by simpa using hl)
    have hy : ys = [] := List.eq_nil_of_length_eq_zero (by simpa using kl)
    rw [hx, hy]
  · rcases k with ⟨e, _⟩ | ⟨g', cap', cur', e, _, hg', _, _, _, ht'⟩
    · simp at e
    · simp only [Value.slice.injEq, Option.some.injEq, Addr.mk.injEq, and_true, true_and] at e
      obtain ⟨rfl, rfl⟩ := e
      rw [hg] at hg'
      simp only [Option.some.injEq, Obj.cells.injEq, and_true] at hg'
      rw [← ht, ← ht', hg']
/-- A copy of items. -/
def CopyIt (base : Nat) (l : List It) (v : Value) (w : World) : Prop := ∃ sa sc F, v = .slice sa l.length sc ∧ OwnIts w sa l F ∧ F.Nodup ∧ (∀ b ∈ F, base ≤ b ∧ b < w.heap.size) ∧ l.length ≤ sc
theorem run_app0I {w : World} {dst : Value} {ty : TypeId} (hd : dst = .slice none 0 0 ∨ ∃ g, dst = .slice (some ⟨g, 0, none⟩) 0 0) (ad : Option Addr) (c : Nat) :
    (Builtin.append_ #[28, 28] ty #[dst, .slice ad 0 c]).run Tryd.prog w = .ok dst w := by
  obtain ⟨i0, hi0, hz0, hz1, hz2⟩ := info_parts infoItm3
  rcases ad with _ | ad <;> rcases hd with rfl | ⟨g, rfl⟩ <;> simp [Builtin.append_, run_underlying Tryd.underlying28, sizeOf, typeInfo, hi0, Builtin.lenOf, Builtin.firstCells, loadCells, loadCellsFrom, storeCells]
theorem itCells_in {w : World} {lo hi b off : Nat} {l : List It} (h : ItemsAt lo hi w (some ⟨b, off, none⟩) l) : ∀ j u, (itCells l)[j]? = some u → w.cell? ((⟨b, off, none⟩ : Addr).add j) = some u := by
  intro j u hj
  have hlt : j < l.length * 3 := by have := (List.getElem?_eq_some_iff.1 hj).1; rw [itCells_len] at this; exact this
  obtain ⟨i, r, hr, rfl⟩ : ∃ i r, r < 3 ∧ j = i * 3 + r := ⟨j / 3, j % 3, Nat.mod_lt _ (by decide), by omega⟩
  have hi : i < l.length := by omega
  obtain ⟨b', off', e, _, _, c0, c1, c2⟩ := h i _ (List.getElem?_eq_getElem hi)
  simp only [Option.some.injEq, Addr.mk.injEq, and_true] at e
  obtain ⟨rfl, rfl⟩ := e
  obtain ⟨m0, m1, m2⟩ := itCells_at l i hi
  have e1 : l.getD i noI = l[i] := by simp [List.getD_eq_getElem?_getD, List.getElem?_eq_getElem hi]
  unfold txtI at m2
  rw [e1] at m0 m1 m2
  rw [addr_add]
  rcases (show r = 0 ∨ r = 1 ∨ r = 2 by omega) with rfl | rfl | rfl
  · simp only [Nat.add_zero] at hj ⊢
    rw [m0] at hj; rw [c0]; exact hj
  · rw [m1] at hj; rw [← Nat.add_assoc, c1]; exact hj
  · rw [m2] at hj; rw [← Nat.add_assoc, c2]; exact hj
theorem items_some {w : World} {lo hi : Nat} {a : Option Addr} {l : List It} (h : ItemsAt lo hi w a l) (hpos : 0 < l.length) : ∃ b off, a = some ⟨b, off, none⟩ := by
  obtain ⟨b, off, e, _⟩ := h 0 _ (List.getElem?_eq_getElem hpos)
  exact ⟨b, off, e⟩
theorem wpList_copyItems {w : World} {ops : Array Oper} {rest : List Oper} {o : Oper} {a : Act} {Q : Exit → Act → World → Prop} (hgd : o.guard = none) (s x : Operand)
    (ho : o.op = .call { callee := .builtin .append, args := #[s, x], argTypes := #[28, 28] }) (base : Nat) (v0 : Value) (hs : a.eval s = v0)
    (hv0 : v0 = .slice none 0 0 ∨ ∃ g, base ≤ g ∧ v0 = .slice (some ⟨g, 0, none⟩) 0 0 ∧ w.heap[g]? = some (.cells #[] 67 (0, 0)))
    (ad : Option Addr) (c : Nat) (l : List It) (lo hi : Nat) (hx : a.eval x = .slice ad l.length c) (hT : ItemsAt lo hi w ad l) (hn : l.length ≤ 1048576) (hbase : base ≤ w.heap.size)
    (h : ∀ v' w', CopyIt base l v' w' → Below base w w' → wpList Tryd.prog ops Q rest (a.put o.dst v') w') : wpList Tryd.prog ops Q (o :: rest) a w := by
  by_cases hpos : 0 < l.length
  · obtain ⟨b, off, rfl⟩ := items_some hT hpos
    obtain ⟨i0, hi0, hz0, hz1, hz2⟩ := info_parts infoItm3
    have hown : w.ownsRow base 67 3 v0 0 [] := by
      rcases hv0 with rfl | ⟨g, hg, rfl, hb⟩
      · exact ⟨rfl, .inl ⟨rfl, rfl⟩⟩
      · exact ⟨rfl, .inr ⟨g, 0, #[], rfl, hg, hb, Nat.le_refl _, Nat.zero_le _, rfl, rfl⟩⟩
    refine wpList_append_own w hgd s x 28 ho base 67 i0 _ 3 32 Tryd.underlying28 hi0 hz0 hz1 hz2 rfl (by decide) v0 0 [] hs hown ⟨b, off, none⟩ l.length c (itCells l) hx (by rw [itCells_len]) (itCells_in hT) (itCells_one l) (by unfold maxLen; omega) (by omega) hbase (fun v' w' h1 h2 _ => ?_)
    have h1' : w'.ownsRow base 67 3 v' l.length (itCells l) := by simpa using h1
    obtain ⟨sa, c', F, rfl, ho, hn, hr, hc⟩ := own_of_its h1'
    refine h _ _ ⟨_, _, F, rfl, ho, hn, hr, hc⟩ ((Below.refl base w).grown h2 hbase (fun r hr => (hown.lt r hr).1))
  · obtain rfl : l = [] := List.eq_nil_of_length_eq_zero (by omega)
    have hrun := fun ty => run_app0I (w := w) (ty := ty) (hv0.imp id (fun ⟨g, _, e, _⟩ => ⟨g, e⟩)) ad c
    refine wpList_plain hgd fun K hK => ?_
    have hnext := h v0 w (by
      rcases hv0 with rfl | ⟨g, _, rfl, _⟩
      · exact ⟨none, 0, [], rfl, .inl ⟨rfl, rfl⟩, List.nodup_nil, (fun _ h => by cases h), Nat.le_refl _⟩
      · exact ⟨some ⟨g, 0, none⟩, 0, [], rfl, .inl ⟨rfl, rfl⟩, List.nodup_nil, (fun _ h => by cases h), Nat.le_refl _⟩) (Below.refl _ _)
    have hx' : a.eval x = .slice ad 0 c := hx
    unfold Oper.wp
    simp [execOp, ho, resolve, invoke, builtin, hs, hx', hrun, Result.andThen]
    exact hK _ _ hnext
/-- The contracts at depth d: one vector, and a slice of them. -/
structure ICV (d : Nat) : Prop where
  out : ∀ (v : Vec) (val : Value) (lo hi : Nat) (w : World), VecAt lo hi w d v val → hi ≤ w.heap.size → Small d v → Calls Tryd.prog 75 #[val] w (ResV d v w)
def ResP (d : Nat) (parts : List Vec) (w : World) (e : Ending) (w' : World) : Prop := ∃ v F, e = .returned v ∧ OwnParts w' d v parts F ∧ F.Nodup ∧ (∀ b ∈ F, w.heap.size ≤ b ∧ b < w'.heap.size) ∧ Below w.heap.size w w' ∧ ∃ xs, w'.ownsRow w.heap.size 31 8 v parts.length xs
structure ICS (d : Nat) : Prop where
  out : ∀ (parts : List Vec) (a : Option Addr) (c lo hi : Nat) (w : World), VecsAt lo hi w d a parts → hi ≤ w.heap.size → (∀ i, i < parts.length → Small d (parts.getD i noV)) → parts.length ≤ 1048576 → Calls Tryd.prog 76 #[.slice a parts.length c] w (ResP d parts w)
set_option maxHeartbeats 4000000 in
theorem icsStep (d : Nat) (IC : ICV d) : ICS d := by
  refine ⟨fun parts a cap lo hi w hs hhi hsm hn => ?_⟩
  have A := Lib.hid (fun (k : Nat) (w1 : World) (hk : k < parts.length) (hb : Below w.heap.size w w1) => (hs.below hb hhi).at_ hk)
  have C := Lib.hid (fun (k : Nat) (w1 : World) (x : Value) (hk : k < parts.length) (hb : Below w.heap.size w w1) (hv : VecAt lo hi w1 d (parts.getD k noV) x) => IC.out _ x lo hi w1 hv (Nat.le_trans hhi hb.size) (hsm k hk))
  have FIN := Lib.hid (fun (wr : World) (v : Value) (h : RowV w wr d parts parts.length v) => h.parts)
  clear hs hsm IC
  obtain ⟨n, hn'⟩ : ∃ n, parts.length = n := ⟨_, rfl⟩
  have HNn := Lib.hid hn'
  rw [hn'] at hn A C FIN ⊢
  clear hn'
  obtain ⟨i0, hi0, hz0, hz1, hz2⟩ := info_parts infoVec8
  go_enter Tryd.func76, Tryd.ntmps76
  go_wp2
  go_loopw [3, 8] (fun v i wr => ∃ k : Nat, k ≤ n ∧ i = .int .i64 k ∧ RowV w wr d parts k v) (fun _ i _ => n - (intOf i).toNat)
  case atStart => exact ⟨0, Nat.zero_le _, rfl, RowV.start w d parts⟩
  case round =>
    obtain ⟨k, hk, rfl, hr⟩ := hrel
    have RV := Lib.hid hr
    clear hr
    by_cases hlt : k < n
    · obtain ⟨b, off, u0, u1, u2, u3, u4, u5, u6, u7, rfl, hbB, hv, c0, c1, c2, c3, c4, c5, c6, c7⟩ := A.out _ _ hlt RV.out.below
      obtain ⟨pk, pa1, pn1, pm1, pa2, pn2, pm2, pa3, pn3, pm3, pa4, pn4, pm4, pa5, pn5, pm5, pc, pe, e⟩ := hv.agg
      simp only [Value.agg.injEq, Array.mk.injEq, List.cons.injEq, and_true] at e
      obtain ⟨rfl, rfl, rfl, rfl, rfl, rfl, rfl, rfl⟩ := e
      have HV := Lib.hid hv
      have hbw : b < wr.heap.size := Nat.lt_of_lt_of_le (Nat.lt_of_lt_of_le hbB hhi) RV.out.below.size
      clear hv
      go_wp2_with fail
      have b1 := Lib.hid (below1 wr (.cells #[.int .i64 pk, .slice pa1 pn1 pm1, .slice pa2 pn2 pm2, .slice pa3 pn3 pm3, .slice pa4 pn4 pm4, .slice pa5 pn5 pm5, .int .i64 pc, .int .i64 pe] 31))
      with_reducible refine (C.out _ _ _ hlt (below_then RV.out.below b1.out) (HV.out.below b1.out (Nat.le_trans hhi RV.out.below.size))).mono ?_
      rintro e w2 ⟨y, rfl, ho, hb⟩
      obtain ⟨yk, ya1, yn1, ym1, ya2, yn2, ym2, ya3, yn3, ym3, ya4, yn4, ym4, ya5, yn5, ym5, yc, ye, rfl⟩ := ho.agg
      have HO := Lib.hid ho
      have BW := Lib.hid (below_then b1.out hb)
      obtain ⟨xs, hxs⟩ := RV.out.row
      have XS := Lib.hid hxs
      have OR := Lib.hid (ownsRow_below (ownsRow_below hxs BW.out) (below1 w2 (.cells #[.int .i64 yk, .slice ya1 yn1 ym1, .slice ya2 yn2 ym2, .slice ya3 yn3 ym3, .slice ya4 yn4 ym4, .slice ya5 yn5 ym5, .int .i64 yc, .int .i64 ye] 31)))
      have S1 := Lib.hid (show w.heap.size ≤ w2.heap.size from (below_then RV.out.below BW.out).size)
      clear ho hb hxs c0 c1 c2 c3 c4 c5 c6 c7
      go_wp2_with (at_builtin; refine wpList_append_own_at _ rfl _ _ 29 rfl w.heap.size 31 i0 _ 8 144 Tryd.underlying29 hi0 hz0 hz1 hz2 rfl (by decide) _ k xs rfl OR.out ⟨w2.heap.size, 0, none⟩ 1 1 [.int .i64 yk, .slice ya1 yn1 ym1, .slice ya2 yn2 ym2, .slice ya3 yn3 ym3, .slice ya4 yn4 ym4, .slice ya5 yn5 ym5, .int .i64 yc, .int .i64 ye] rfl rfl ?c1 ?c2 ?c3 ?c4 ?c5 ?_)
      case c1 =>
        intro j u hj
        have hlt : j < 8 := by have := (List.getElem?_eq_some_iff.1 hj).1; simpa using this
        rw [addr_add, Nat.zero_add]
        refine cellOf (blk_new w2 _ rfl) ?_
        rw [← hj]
        rcases (show j = 0 ∨ j = 1 ∨ j = 2 ∨ j = 3 ∨ j = 4 ∨ j = 5 ∨ j = 6 ∨ j = 7 by omega) with rfl | rfl | rfl | rfl | rfl | rfl | rfl | rfl <;> rfl
      case c2 => intro u hu; simp only [List.mem_cons, List.not_mem_nil, or_false] at hu; rcases hu with rfl | rfl | rfl | rfl | rfl | rfl | rfl | rfl <;> rfl
      case c3 => unfold maxLen; omega
      case c4 => omega
      case c5 => have := S1.out; simp; omega
      intro v' w3 hown' hgrow _ hwh
      have NX := Lib.hid (RV.out.next HO.out (by simp) BW.out hgrow (fun ys hy => ownsRow_same XS.out hy ▸ hown') (by simpa using hwh))
      clear hown' hgrow hwh
      go_wp2
      go_roundw
      case rel => exact ⟨k + 1, by omega, by go_num, NX.out⟩
      case measure => simp [intOf]; omega
    · obtain rfl : k = n := by omega
      go_wp2
      obtain ⟨F, h1, h2, h3⟩ := FIN.out _ _ RV.out
      go_ret
      exact ⟨_, F, rfl, h1, h2, h3, RV.out.below, by rw [HNn.out]; exact RV.out.row⟩
set_option maxHeartbeats 4000000 in
theorem icvStep (d : Nat) (IS : ICS d) : ICV (d + 1) := by
  refine ⟨fun v val lo hi w hv hhi hsm => ?_⟩
  obtain ⟨kk, items, parts, names, cls, levels, code, env⟩ := v
  obtain ⟨d', ai, ci, ap, cp, an, cn, ac, cc, al, cl, ed, rfl, hI, hN, hC, hL, hP⟩ := vecAt_open hv
  obtain rfl : d = d' := by omega
  have hsp : ∀ i, i < parts.length → Small d (parts.getD i noV) := fun i hi => hsm.part hi
  obtain ⟨li, lp, ln, lc, ll, _⟩ := hsm
  have HI := Lib.hid (fun (w1 : World) (hb : Below w.heap.size w w1) => hI.below hb hhi)
  have CP := Lib.hid (fun (w1 : World) (hb : Below w.heap.size w w1) => IS.out parts ap cp lo hi w1 (hP.below hb hhi) (Nat.le_trans hhi hb.size) hsp lp)
  have CT3 := Lib.hid (fun (w1 : World) (hb : Below w.heap.size w w1) => implCopyAny names an cn lo hi w1 (hN.below hb hhi) ln)
  have CT4 := Lib.hid (fun (w1 : World) (hb : Below w.heap.size w w1) => implCopyAny cls ac cc lo hi w1 (hC.below hb hhi) lc)
  have CT5 := Lib.hid (fun (w1 : World) (hb : Below w.heap.size w w1) => implCopyAny levels al cl lo hi w1 (hL.below hb hhi) ll)
  clear hv hI hN hC hL hP hsp
  go_enter Tryd.func75, Tryd.ntmps75
  obtain ⟨w1, hw1⟩ : ∃ W, (w.alloc (.cells #[.int .i64 kk, .slice ai items.length ci, .slice ap parts.length cp, .slice an names.length cn, .slice ac cls.length cc, .slice al levels.length cl, .int .i64 code, .int .i64 env] 31)).alloc (.cells #[.int .i64 0, .slice none 0 0, .slice none 0 0, .slice none 0 0, .slice none 0 0, .slice none 0 0, .int .i64 0, .int .i64 0] 31) = W := ⟨_, rfl⟩
  have hsz : (w.alloc (.cells #[.int .i64 kk, .slice ai items.length ci, .slice ap parts.length cp, .slice an names.length cn, .slice ac cls.length cc, .slice al levels.length cl, .int .i64 code, .int .i64 env] 31)).heap.size = w.heap.size + 1 := by simp
  have B1 := Lib.hid (show Below w.heap.size w w1 from hw1 ▸ (below1 w _).alloc (by simp) _)
  have KA1 := Lib.hid (show w1.heap[w.heap.size]? = some (.cells #[.int .i64 kk, .slice ai items.length ci, .slice ap parts.length cp, .slice an names.length cn, .slice ac cls.length cc, .slice al levels.length cl, .int .i64 code, .int .i64 env] 31 (0, 0)) from hw1 ▸ blk_old (blk_new w _ rfl))
  have KR1 := Lib.hid (show w1.heap[w.heap.size + 1]? = some (.cells #[.int .i64 0, .slice none 0 0, .slice none 0 0, .slice none 0 0, .slice none 0 0, .slice none 0 0, .int .i64 0, .int .i64 0] 31 (0, 0)) from hw1 ▸ hsz ▸ blk_new (w.alloc (.cells #[.int .i64 kk, .slice ai items.length ci, .slice ap parts.length cp, .slice an names.length cn, .slice ac cls.length cc, .slice al levels.length cl, .int .i64 code, .int .i64 env] 31)) (.cells #[.int .i64 0, .slice none 0 0, .slice none 0 0, .slice none 0 0, .slice none 0 0, .slice none 0 0, .int .i64 0, .int .i64 0] 31) rfl)
  have hs1 : w.heap.size + 1 < w1.heap.size := (Array.getElem?_eq_some_iff.1 KR1.out).1
  have EW := Lib.hid hw1
  clear hw1 hsz
  go_wp2_with (at_builtin; rw [EW.out]; refine wpList_copyItems rfl _ _ rfl w1.heap.size _ rfl (.inl rfl) ai ci items lo hi rfl (HI.out _ B1.out) li (Nat.le_refl _) ?_)
  intro v' w2 hcp hb
  obtain ⟨q1, r1, F1, rfl, hT1, hn1, hr1, hc1⟩ := hcp
  have B2 := Lib.hid (below_then B1.out hb)
  have KA2 := Lib.hid (blk_below hb KA1.out)
  have KR2 := Lib.hid (blk_below hb KR1.out)
  have P1w2 := Lib.hid hT1
  have N1 := Lib.hid hn1
  have R1 := Lib.hid hr1
  have C1 := Lib.hid hc1
  have Z2 := Lib.hid hb.size
  clear hT1 hn1 hr1 hc1 hb
  have u2 : ∃ x, w2.cell? ⟨w.heap.size, 1, none⟩ = some x := ⟨_, cellOf KA2.out rfl⟩
  obtain ⟨x2, hx2⟩ := u2
  have hf2 : w2.frozen? ⟨w.heap.size, 1, none⟩ = false := freeOf KA2.out
  obtain ⟨w3, hw⟩ : ∃ W, w2.setCell ⟨w.heap.size, 1, none⟩ (.slice q1 items.length r1) = W := ⟨_, rfl⟩
  have KA3 := Lib.hid (show w3.heap[w.heap.size]? = some (.cells #[.int .i64 kk, .slice q1 items.length r1, .slice ap parts.length cp, .slice an names.length cn, .slice ac cls.length cc, .slice al levels.length cl, .int .i64 code, .int .i64 env] 31 (0, 0)) from hw ▸ Joins.block_setCell KA2.out _)
  have KR3 := Lib.hid (show w3.heap[w.heap.size + 1]? = some (.cells #[.int .i64 0, .slice none 0 0, .slice none 0 0, .slice none 0 0, .slice none 0 0, .slice none 0 0, .int .i64 0, .int .i64 0] 31 (0, 0)) from hw ▸ (Below.heap_setCell _ _ _ _ (by show w.heap.size + 1 ≠ w.heap.size; omega)).trans KR2.out)
  have B3 := Lib.hid (show Below w.heap.size w w3 from hw ▸ B2.out.setCell (p := ⟨w.heap.size, 1, none⟩) (Nat.le_refl _) _)
  have Z3 := Lib.hid (show w2.heap.size ≤ w3.heap.size from hw ▸ (by simp))
  have E3 := Lib.hid (show w3.heap.size = w2.heap.size from hw ▸ (by simp))
  have P1w3 := Lib.hid (show OwnIts w3 q1 items F1 from hw ▸ P1w2.out.kept (fun g hg => Below.heap_setCell _ _ _ _ (by have := R1.out g hg; show g ≠ w.heap.size; have := Z2.out; omega)))
  have EW3 := Lib.hid hw
  clear hw
  obtain ⟨k0, k1, k2, k3, k4, k5, k6, k7⟩ := vec8 KA2.out
  go_wp2_with fail
  rw [EW3.out]
  clear k0 k1 k2 k3 k4 k5 k6 k7 hx2 hf2
  with_reducible refine (CP.out _ B3.out).mono ?_
  rintro e w4 ⟨v, F2, rfl, hT, hn, hr, hb, _⟩
  obtain ⟨q2, r2, rfl, hcc, hT'⟩ := hT
  have P2w4 := Lib.hid (show OwnParts w4 d (.slice q2 parts.length r2) parts F2 from ⟨q2, r2, rfl, hcc, hT'⟩)
  clear hT'
  have B4 := Lib.hid (below_then B3.out hb)
  have KA4 := Lib.hid (blk_below hb KA3.out)
  have KR4 := Lib.hid (blk_below hb KR3.out)
  have N2 := Lib.hid hn
  have R2 := Lib.hid hr
  have C2 := Lib.hid hcc
  have Z4 := Lib.hid hb.size
  have P1w4 := Lib.hid (P1w3.out.kept (fun g hg => hb.block g (by have := R1.out g hg; have := Z2.out; have := Z3.out; omega)))
  clear hb hn hr hcc
  have u4 : ∃ x, w4.cell? ⟨w.heap.size, 2, none⟩ = some x := ⟨_, cellOf KA4.out rfl⟩
  obtain ⟨x4, hx4⟩ := u4
  have hf4 : w4.frozen? ⟨w.heap.size, 2, none⟩ = false := freeOf KA4.out
  obtain ⟨w5, hw⟩ : ∃ W, w4.setCell ⟨w.heap.size, 2, none⟩ (.slice q2 parts.length r2) = W := ⟨_, rfl⟩
  have KA5 := Lib.hid (show w5.heap[w.heap.size]? = some (.cells #[.int .i64 kk, .slice q1 items.length r1, .slice q2 parts.length r2, .slice an names.length cn, .slice ac cls.length cc, .slice al levels.length cl, .int .i64 code, .int .i64 env] 31 (0, 0)) from hw ▸ Joins.block_setCell KA4.out _)
  have KR5 := Lib.hid (show w5.heap[w.heap.size + 1]? = some (.cells #[.int .i64 0, .slice none 0 0, .slice none 0 0, .slice none 0 0, .slice none 0 0, .slice none 0 0, .int .i64 0, .int .i64 0] 31 (0, 0)) from hw ▸ (Below.heap_setCell _ _ _ _ (by show w.heap.size + 1 ≠ w.heap.size; omega)).trans KR4.out)
  have B5 := Lib.hid (show Below w.heap.size w w5 from hw ▸ B4.out.setCell (p := ⟨w.heap.size, 2, none⟩) (Nat.le_refl _) _)
  have Z5 := Lib.hid (show w4.heap.size ≤ w5.heap.size from hw ▸ (by simp))
  have E5 := Lib.hid (show w5.heap.size = w4.heap.size from hw ▸ (by simp))
  have P1w5 := Lib.hid (show OwnIts w5 q1 items F1 from hw ▸ P1w4.out.kept (fun g hg => Below.heap_setCell _ _ _ _ (by have := R1.out g hg; show g ≠ w.heap.size; have := Z2.out; have := Z3.out; have := Z4.out; omega)))
  have P2w5 := Lib.hid (show OwnParts w5 d (.slice q2 parts.length r2) parts F2 from hw ▸ P2w4.out.kept (fun g hg => Below.heap_setCell _ _ _ _ (by have := R2.out g hg; show g ≠ w.heap.size; have := Z2.out; have := Z3.out; have := Z4.out; omega)))
  have EW5 := Lib.hid hw
  clear hw
  obtain ⟨k0, k1, k2, k3, k4, k5, k6, k7⟩ := vec8 KA4.out
  go_wp2_with fail
  rw [EW5.out]
  clear k0 k1 k2 k3 k4 k5 k6 k7 hx4 hf4
  with_reducible refine (CT3.out _ B5.out).mono ?_
  rintro e w6 ⟨v, rfl, ⟨q3, r3, F3, rfl, hT, hn, hr, hcc⟩, hb⟩
  have P3w6 := Lib.hid hT
  clear hT
  have B6 := Lib.hid (below_then B5.out hb)
  have KA6 := Lib.hid (blk_below hb KA5.out)
  have KR6 := Lib.hid (blk_below hb KR5.out)
  have N3 := Lib.hid hn
  have R3 := Lib.hid hr
  have C3 := Lib.hid hcc
  have Z6 := Lib.hid hb.size
  have P1w6 := Lib.hid (P1w5.out.kept (fun g hg => hb.block g (by have := R1.out g hg; have := Z2.out; have := Z3.out; have := Z4.out; have := Z5.out; omega)))
  have P2w6 := Lib.hid (P2w5.out.kept (fun g hg => hb.block g (by have := R2.out g hg; have := Z2.out; have := Z3.out; have := Z4.out; have := Z5.out; omega)))
  clear hb hn hr hcc
  have u6 : ∃ x, w6.cell? ⟨w.heap.size, 3, none⟩ = some x := ⟨_, cellOf KA6.out rfl⟩
  obtain ⟨x6, hx6⟩ := u6
  have hf6 : w6.frozen? ⟨w.heap.size, 3, none⟩ = false := freeOf KA6.out
  obtain ⟨w7, hw⟩ : ∃ W, w6.setCell ⟨w.heap.size, 3, none⟩ (.slice q3 names.length r3) = W := ⟨_, rfl⟩
  have KA7 := Lib.hid (show w7.heap[w.heap.size]? = some (.cells #[.int .i64 kk, .slice q1 items.length r1, .slice q2 parts.length r2, .slice q3 names.length r3, .slice ac cls.length cc, .slice al levels.length cl, .int .i64 code, .int .i64 env] 31 (0, 0)) from hw ▸ Joins.block_setCell KA6.out _)
  have KR7 := Lib.hid (show w7.heap[w.heap.size + 1]? = some (.cells #[.int .i64 0, .slice none 0 0, .slice none 0 0, .slice none 0 0, .slice none 0 0, .slice none 0 0, .int .i64 0, .int .i64 0] 31 (0, 0)) from hw ▸ (Below.heap_setCell _ _ _ _ (by show w.heap.size + 1 ≠ w.heap.size; omega)).trans KR6.out)
  have B7 := Lib.hid (show Below w.heap.size w w7 from hw ▸ B6.out.setCell (p := ⟨w.heap.size, 3, none⟩) (Nat.le_refl _) _)
  have Z7 := Lib.hid (show w6.heap.size ≤ w7.heap.size from hw ▸ (by simp))
  have E7 := Lib.hid (show w7.heap.size = w6.heap.size from hw ▸ (by simp))
  have P1w7 := Lib.hid (show OwnIts w7 q1 items F1 from hw ▸ P1w6.out.kept (fun g hg => Below.heap_setCell _ _ _ _ (by have := R1.out g hg; show g ≠ w.heap.size; have := Z2.out; have := Z3.out; have := Z4.out; have := Z5.out; have := Z6.out; omega)))
  have P2w7 := Lib.hid (show OwnParts w7 d (.slice q2 parts.length r2) parts F2 from hw ▸ P2w6.out.kept (fun g hg => Below.heap_setCell _ _ _ _ (by have := R2.out g hg; show g ≠ w.heap.size; have := Z2.out; have := Z3.out; have := Z4.out; have := Z5.out; have := Z6.out; omega)))
  have P3w7 := Lib.hid (show OwnTxs w7 q3 names F3 from hw ▸ P3w6.out.kept (fun g hg => Below.heap_setCell _ _ _ _ (by have := R3.out g hg; show g ≠ w.heap.size; have := Z2.out; have := Z3.out; have := Z4.out; have := Z5.out; have := Z6.out; omega)))
  have EW7 := Lib.hid hw
  clear hw
  obtain ⟨k0, k1, k2, k3, k4, k5, k6, k7⟩ := vec8 KA6.out
  go_wp2_with fail
  rw [EW7.out]
  clear k0 k1 k2 k3 k4 k5 k6 k7 hx6 hf6
  with_reducible refine (CT4.out _ B7.out).mono ?_
  rintro e w8 ⟨v, rfl, ⟨q4, r4, F4, rfl, hT, hn, hr, hcc⟩, hb⟩
  have P4w8 := Lib.hid hT
  clear hT
  have B8 := Lib.hid (below_then B7.out hb)
  have KA8 := Lib.hid (blk_below hb KA7.out)
  have KR8 := Lib.hid (blk_below hb KR7.out)
  have N4 := Lib.hid hn
  have R4 := Lib.hid hr
  have C4 := Lib.hid hcc
  have Z8 := Lib.hid hb.size
  have P1w8 := Lib.hid (P1w7.out.kept (fun g hg => hb.block g (by have := R1.out g hg; have := Z2.out; have := Z3.out; have := Z4.out; have := Z5.out; have := Z6.out; have := Z7.out; omega)))
  have P2w8 := Lib.hid (P2w7.out.kept (fun g hg => hb.block g (by have := R2.out g hg; have := Z2.out; have := Z3.out; have := Z4.out; have := Z5.out; have := Z6.out; have := Z7.out; omega)))
  have P3w8 := Lib.hid (P3w7.out.kept (fun g hg => hb.block g (by have := R3.out g hg; have := Z2.out; have := Z3.out; have := Z4.out; have := Z5.out; have := Z6.out; have := Z7.out; omega)))
  clear hb hn hr hcc
  have u8 : ∃ x, w8.cell? ⟨w.heap.size, 4, none⟩ = some x := ⟨_, cellOf KA8.out rfl⟩
  obtain ⟨x8, hx8⟩ := u8
  have hf8 : w8.frozen? ⟨w.heap.size, 4, none⟩ = false := freeOf KA8.out
  obtain ⟨w9, hw⟩ : ∃ W, w8.setCell ⟨w.heap.size, 4, none⟩ (.slice q4 cls.length r4) = W := ⟨_, rfl⟩
  have KA9 := Lib.hid (show w9.heap[w.heap.size]? = some (.cells #[.int .i64 kk, .slice q1 items.length r1, .slice q2 parts.length r2, .slice q3 names.length r3, .slice q4 cls.length r4, .slice al levels.length cl, .int .i64 code, .int .i64 env] 31 (0, 0)) from hw ▸ Joins.block_setCell KA8.out _)
  have KR9 := Lib.hid (show w9.heap[w.heap.size + 1]? = some (.cells #[.int .i64 0, .slice none 0 0, .slice none 0 0, .slice none 0 0, .slice none 0 0, .slice none 0 0, .int .i64 0, .int .i64 0] 31 (0, 0)) from hw ▸ (Below.heap_setCell _ _ _ _ (by show w.heap.size + 1 ≠ w.heap.size; omega)).trans KR8.out)
  have B9 := Lib.hid (show Below w.heap.size w w9 from hw ▸ B8.out.setCell (p := ⟨w.heap.size, 4, none⟩) (Nat.le_refl _) _)
  have Z9 := Lib.hid (show w8.heap.size ≤ w9.heap.size from hw ▸ (by simp))
  have E9 := Lib.hid (show w9.heap.size = w8.heap.size from hw ▸ (by simp))
  have P1w9 := Lib.hid (show OwnIts w9 q1 items F1 from hw ▸ P1w8.out.kept (fun g hg => Below.heap_setCell _ _ _ _ (by have := R1.out g hg; show g ≠ w.heap.size; have := Z2.out; have := Z3.out; have := Z4.out; have := Z5.out; have := Z6.out; have := Z7.out; have := Z8.out; omega)))
  have P2w9 := Lib.hid (show OwnParts w9 d (.slice q2 parts.length r2) parts F2 from hw ▸ P2w8.out.kept (fun g hg => Below.heap_setCell _ _ _ _ (by have := R2.out g hg; show g ≠ w.heap.size; have := Z2.out; have := Z3.out; have := Z4.out; have := Z5.out; have := Z6.out; have := Z7.out; have := Z8.out; omega)))
  have P3w9 := Lib.hid (show OwnTxs w9 q3 names F3 from hw ▸ P3w8.out.kept (fun g hg => Below.heap_setCell _ _ _ _ (by have := R3.out g hg; show g ≠ w.heap.size; have := Z2.out; have := Z3.out; have := Z4.out; have := Z5.out; have := Z6.out; have := Z7.out; have := Z8.out; omega)))
  have P4w9 := Lib.hid (show OwnTxs w9 q4 cls F4 from hw ▸ P4w8.out.kept (fun g hg => Below.heap_setCell _ _ _ _ (by have := R4.out g hg; show g ≠ w.heap.size; have := Z2.out; have := Z3.out; have := Z4.out; have := Z5.out; have := Z6.out; have := Z7.out; have := Z8.out; omega)))
  have EW9 := Lib.hid hw
  clear hw
  obtain ⟨k0, k1, k2, k3, k4, k5, k6, k7⟩ := vec8 KA8.out
  go_wp2_with fail
  rw [EW9.out]
  clear k0 k1 k2 k3 k4 k5 k6 k7 hx8 hf8
  with_reducible refine (CT5.out _ B9.out).mono ?_
  rintro e w10 ⟨v, rfl, ⟨q5, r5, F5, rfl, hT, hn, hr, hcc⟩, hb⟩
  have P5w10 := Lib.hid hT
  clear hT
  have B10 := Lib.hid (below_then B9.out hb)
  have KA10 := Lib.hid (blk_below hb KA9.out)
  have KR10 := Lib.hid (blk_below hb KR9.out)
  have N5 := Lib.hid hn
  have R5 := Lib.hid hr
  have C5 := Lib.hid hcc
  have Z10 := Lib.hid hb.size
  have P1w10 := Lib.hid (P1w9.out.kept (fun g hg => hb.block g (by have := R1.out g hg; have := Z2.out; have := Z3.out; have := Z4.out; have := Z5.out; have := Z6.out; have := Z7.out; have := Z8.out; have := Z9.out; omega)))
  have P2w10 := Lib.hid (P2w9.out.kept (fun g hg => hb.block g (by have := R2.out g hg; have := Z2.out; have := Z3.out; have := Z4.out; have := Z5.out; have := Z6.out; have := Z7.out; have := Z8.out; have := Z9.out; omega)))
  have P3w10 := Lib.hid (P3w9.out.kept (fun g hg => hb.block g (by have := R3.out g hg; have := Z2.out; have := Z3.out; have := Z4.out; have := Z5.out; have := Z6.out; have := Z7.out; have := Z8.out; have := Z9.out; omega)))
  have P4w10 := Lib.hid (P4w9.out.kept (fun g hg => hb.block g (by have := R4.out g hg; have := Z2.out; have := Z3.out; have := Z4.out; have := Z5.out; have := Z6.out; have := Z7.out; have := Z8.out; have := Z9.out; omega)))
  clear hb hn hr hcc
  have u10 : ∃ x, w10.cell? ⟨w.heap.size, 5, none⟩ = some x := ⟨_, cellOf KA10.out rfl⟩
  obtain ⟨x10, hx10⟩ := u10
  have hf10 : w10.frozen? ⟨w.heap.size, 5, none⟩ = false := freeOf KA10.out
  obtain ⟨w11, hw⟩ : ∃ W, w10.setCell ⟨w.heap.size, 5, none⟩ (.slice q5 levels.length r5) = W := ⟨_, rfl⟩
  have KA11 := Lib.hid (show w11.heap[w.heap.size]? = some (.cells #[.int .i64 kk, .slice q1 items.length r1, .slice q2 parts.length r2, .slice q3 names.length r3, .slice q4 cls.length r4, .slice q5 levels.length r5, .int .i64 code, .int .i64 env] 31 (0, 0)) from hw ▸ Joins.block_setCell KA10.out _)
  have KR11 := Lib.hid (show w11.heap[w.heap.size + 1]? = some (.cells #[.int .i64 0, .slice none 0 0, .slice none 0 0, .slice none 0 0, .slice none 0 0, .slice none 0 0, .int .i64 0, .int .i64 0] 31 (0, 0)) from hw ▸ (Below.heap_setCell _ _ _ _ (by show w.heap.size + 1 ≠ w.heap.size; omega)).trans KR10.out)
  have B11 := Lib.hid (show Below w.heap.size w w11 from hw ▸ B10.out.setCell (p := ⟨w.heap.size, 5, none⟩) (Nat.le_refl _) _)
  have Z11 := Lib.hid (show w10.heap.size ≤ w11.heap.size from hw ▸ (by simp))
  have E11 := Lib.hid (show w11.heap.size = w10.heap.size from hw ▸ (by simp))
  have P1w11 := Lib.hid (show OwnIts w11 q1 items F1 from hw ▸ P1w10.out.kept (fun g hg => Below.heap_setCell _ _ _ _ (by have := R1.out g hg; show g ≠ w.heap.size; have := Z2.out; have := Z3.out; have := Z4.out; have := Z5.out; have := Z6.out; have := Z7.out; have := Z8.out; have := Z9.out; have := Z10.out; omega)))
  have P2w11 := Lib.hid (show OwnParts w11 d (.slice q2 parts.length r2) parts F2 from hw ▸ P2w10.out.kept (fun g hg => Below.heap_setCell _ _ _ _ (by have := R2.out g hg; show g ≠ w.heap.size; have := Z2.out; have := Z3.out; have := Z4.out; have := Z5.out; have := Z6.out; have := Z7.out; have := Z8.out; have := Z9.out; have := Z10.out; omega)))
  have P3w11 := Lib.hid (show OwnTxs w11 q3 names F3 from hw ▸ P3w10.out.kept (fun g hg => Below.heap_setCell _ _ _ _ (by have := R3.out g hg; show g ≠ w.heap.size; have := Z2.out; have := Z3.out; have := Z4.out; have := Z5.out; have := Z6.out; have := Z7.out; have := Z8.out; have := Z9.out; have := Z10.out; omega)))
  have P4w11 := Lib.hid (show OwnTxs w11 q4 cls F4 from hw ▸ P4w10.out.kept (fun g hg => Below.heap_setCell _ _ _ _ (by have := R4.out g hg; show g ≠ w.heap.size; have := Z2.out; have := Z3.out; have := Z4.out; have := Z5.out; have := Z6.out; have := Z7.out; have := Z8.out; have := Z9.out; have := Z10.out; omega)))
  have P5w11 := Lib.hid (show OwnTxs w11 q5 levels F5 from hw ▸ P5w10.out.kept (fun g hg => Below.heap_setCell _ _ _ _ (by have := R5.out g hg; show g ≠ w.heap.size; have := Z2.out; have := Z3.out; have := Z4.out; have := Z5.out; have := Z6.out; have := Z7.out; have := Z8.out; have := Z9.out; have := Z10.out; omega)))
  have EW11 := Lib.hid hw
  clear hw
  obtain ⟨k0, k1, k2, k3, k4, k5, k6, k7⟩ := vec8 KA10.out
  go_upto_region 6 with (fail)
  rw [EW11.out]
  clear k0 k1 k2 k3 k4 k5 k6 k7 hx10 hf10
  obtain ⟨k0, k1, k2, k3, k4, k5, k6, k7⟩ := vec8 KA11.out
  obtain ⟨z0, z1, z2, z3, z4, z5, z6, z7⟩ := vec8 KR11.out
  obtain ⟨f0, f1, f2, f3, f4, f5, f6, f7⟩ := free8 KR11.out
  go_wp2
  refine vec_end rfl rfl rfl KR11.out ⟨_, rfl, ⟨F1 ++ (F2 ++ (F3 ++ (F4 ++ F5))), ?_, ?_, ?_⟩, put8_below B11.out (Nat.le_succ _)⟩
  · have P2x := P2w11.out
    obtain ⟨_, _, e2, hc2, h2⟩ := P2x
    simp only [Value.slice.injEq, true_and] at e2
    obtain ⟨rfl, rfl⟩ := e2
    have ho : OwnVec w11 (d + 1) (.mk kk items parts names cls levels code env) (.agg #[.int .i64 kk, .slice q1 items.length r1, .slice q2 parts.length r2, .slice q3 names.length r3, .slice q4 cls.length r4, .slice q5 levels.length r5, .int .i64 code, .int .i64 env]) (F1 ++ (F2 ++ (F3 ++ (F4 ++ F5)))) := by
      unfold OwnVec
      exact ⟨q1, r1, q2, r2, q3, r3, q4, r4, q5, r5, F1, F2, F3, F4, F5, rfl, rfl, ⟨C1.out, C2.out, C3.out, C4.out, C5.out⟩, P1w11.out, P3w11.out, P4w11.out, P5w11.out, h2⟩
    refine ho.kept _ _ _ _ (fun g hg => put8_other ?_)
    simp only [List.mem_append] at hg
    rcases hg with hg | hg | hg | hg | hg
    · have := R1.out g hg; have := Z2.out; have := Z3.out; have := Z4.out; have := Z5.out; have := Z6.out; have := Z7.out; have := Z8.out; have := Z9.out; have := Z10.out; have := Z11.out; omega
    · have := R2.out g hg; have := Z2.out; have := Z3.out; have := Z4.out; have := Z5.out; have := Z6.out; have := Z7.out; have := Z8.out; have := Z9.out; have := Z10.out; have := Z11.out; omega
    · have := R3.out g hg; have := Z2.out; have := Z3.out; have := Z4.out; have := Z5.out; have := Z6.out; have := Z7.out; have := Z8.out; have := Z9.out; have := Z10.out; have := Z11.out; omega
    · have := R4.out g hg; have := Z2.out; have := Z3.out; have := Z4.out; have := Z5.out; have := Z6.out; have := Z7.out; have := Z8.out; have := Z9.out; have := Z10.out; have := Z11.out; omega
    · have := R5.out g hg; have := Z2.out; have := Z3.out; have := Z4.out; have := Z5.out; have := Z6.out; have := Z7.out; have := Z8.out; have := Z9.out; have := Z10.out; have := Z11.out; omega
  · simp only [List.nodup_append, List.mem_append]
    refine ⟨N1.out, ⟨N2.out, ⟨N3.out, ⟨N4.out, N5.out, ?_⟩, ?_⟩, ?_⟩, ?_⟩
    · intro a ha b hb e; subst e; have x := R4.out a ha; have := Z2.out; have := Z3.out; have := Z4.out; have := Z5.out; have := Z6.out; have := Z7.out; have := Z8.out; have := Z9.out; have := Z10.out; have := Z11.out
      have y := R5.out a hb; omega
    · intro a ha b hb e; subst e; have x := R3.out a ha; have := Z2.out; have := Z3.out; have := Z4.out; have := Z5.out; have := Z6.out; have := Z7.out; have := Z8.out; have := Z9.out; have := Z10.out; have := Z11.out
      rcases hb with hb | hb
      · have y := R4.out a hb; omega
      · have y := R5.out a hb; omega
    · intro a ha b hb e; subst e; have x := R2.out a ha; have := Z2.out; have := Z3.out; have := Z4.out; have := Z5.out; have := Z6.out; have := Z7.out; have := Z8.out; have := Z9.out; have := Z10.out; have := Z11.out
      rcases hb with hb | hb | hb
      · have y := R3.out a hb; omega
      · have y := R4.out a hb; omega
      · have y := R5.out a hb; omega
    · intro a ha b hb e; subst e; have x := R1.out a ha; have := Z2.out; have := Z3.out; have := Z4.out; have := Z5.out; have := Z6.out; have := Z7.out; have := Z8.out; have := Z9.out; have := Z10.out; have := Z11.out
      rcases hb with hb | hb | hb | hb
      · have y := R2.out a hb; omega
      · have y := R3.out a hb; omega
      · have y := R4.out a hb; omega
      · have y := R5.out a hb; omega
  · intro g hg
    rw [put8_size]
    simp only [List.mem_append] at hg
    rcases hg with hg | hg | hg | hg | hg
    · have := R1.out g hg; have := Z2.out; have := Z3.out; have := Z4.out; have := Z5.out; have := Z6.out; have := Z7.out; have := Z8.out; have := Z9.out; have := Z10.out; have := Z11.out; omega
    · have := R2.out g hg; have := Z2.out; have := Z3.out; have := Z4.out; have := Z5.out; have := Z6.out; have := Z7.out; have := Z8.out; have := Z9.out; have := Z10.out; have := Z11.out; omega
    · have := R3.out g hg; have := Z2.out; have := Z3.out; have := Z4.out; have := Z5.out; have := Z6.out; have := Z7.out; have := Z8.out; have := Z9.out; have := Z10.out; have := Z11.out; omega
    · have := R4.out g hg; have := Z2.out; have := Z3.out; have := Z4.out; have := Z5.out; have := Z6.out; have := Z7.out; have := Z8.out; have := Z9.out; have := Z10.out; have := Z11.out; omega
    · have := R5.out g hg; have := Z2.out; have := Z3.out; have := Z4.out; have := Z5.out; have := Z6.out; have := Z7.out; have := Z8.out; have := Z9.out; have := Z10.out; have := Z11.out; omega
theorem icvZero : ICV 0 := ⟨fun _ _ _ _ _ h => h.elim⟩
theorem icvAll : ∀ d, ICV d
  | 0 => icvZero
  | d + 1 => icvStep d (icsStep d (icvAll d))
theorem icsAll (d : Nat) : ICS d := icsStep d (icvAll d)
end Go.Proofs.YtddebgmjolojeaaDoor

/- NotVector as data. -/
namespace Go.Proofs.YtddebgmjolojeaaDoor
open Go.RowKit
set_option maxRecDepth 100000
set_option linter.unusedVariables false

def notIt (x : It) : It := logI (nL (truthI x))
/-- What NotVector answers. -/
noncomputable def notV (v : Vec) : Vec := match bB (ValidV v ∧ Counts v), v with
  | true, .mk _ items _ names _ _ _ _ => mkN 1 (itF (fun i => notIt (items.getD i noI)) items.length) names
  | false, _ => noV
noncomputable def notS (v : Vec) : ByteArray := match bB (ValidV v), bB (Counts v) with
  | false, _ => badB
  | true, false => nonLogB
  | true, true => ⟨#[]⟩
end Go.Proofs.YtddebgmjolojeaaDoor

/- The elements of a vector as the parts of a list. -/
namespace Go.Proofs.YtddebgmjolojeaaDoor
open Go.RowKit
set_option maxRecDepth 100000
set_option linter.unusedVariables false

/-- The elements of a vector as vectors. -/
def elems (v : Vec) : List Vec := match v with
  | .mk k items parts names cls levels code env => if k = 5 then [.mk k items parts names cls levels code env] else if k = 4 then parts else items.map (fun x => vecOf k [x])
theorem ownsRow_base {w : World} {base base' : Nat} {el : TypeId} {size n : Nat} {v : Value} {xs : List Value} (h : w.ownsRow base el size v n xs) (hb : base' ≤ base) : w.ownsRow base' el size v n xs := by
  obtain ⟨hl, h⟩ := h
  refine ⟨hl, h.imp id ?_⟩
  rintro ⟨g, cap, cur, e, hB, r⟩
  exact ⟨g, cap, cur, e, by omega, r⟩
/-- What elementsOf answers. -/
def ElmAns (v : Vec) (w : World) (e : Ending) (w' : World) : Prop := (∃ a c D, e = .returned (.slice a (elems v).length c) ∧ VecsAt w.heap.size w'.heap.size w' D a (elems v) ∧ ∀ i, i < (elems v).length → Small D ((elems v).getD i noV)) ∧ Below w.heap.size w w'
theorem elems_fun {v : Vec} {items : List It} {parts : List Vec} {names cls levels : List ByteArray} {code env : Int} (h : v = .mk 5 items parts names cls levels code env) : elems v = [v] := by subst h; rfl
theorem elems_list {items : List It} {parts : List Vec} {names cls levels : List ByteArray} {code env : Int} : elems (.mk 4 items parts names cls levels code env) = parts := rfl
theorem elems_items {k : Int} {items : List It} {parts : List Vec} {names cls levels : List ByteArray} {code env : Int} (h5 : k ≠ 5) (h4 : k ≠ 4) : elems (.mk k items parts names cls levels code env) = items.map (fun x => vecOf k [x]) := by
  show (if k = 5 then _ else if k = 4 then _ else _) = _
  rw [if_neg h5, if_neg h4]
theorem own_one {w : World} {g : Nat} {k : Int} {x : It} (h : w.heap[g]? = some (.cells #[.int .i64 x.n, .int .i64 x.d, .string x.t] 67 (0, 0))) : Own 1 (vecOf k [x]) (.agg #[.int .i64 k, .slice (some ⟨g, 0, none⟩) 1 1, .slice none 0 0, .slice none 0 0, .slice none 0 0, .slice none 0 0, .int .i64 0, .int .i64 0]) g (g + 1) w := by
  refine ⟨[g], ?_, by simp, fun b hb => by obtain rfl := List.mem_singleton.1 hb; omega⟩
  show OwnVec w 1 (.mk k [x] [] [] [] [] 0 0) _ _
  unfold OwnVec
  exact ⟨some ⟨g, 0, none⟩, 1, none, 0, none, 0, none, 0, none, 0, [g], [], [], [], [], rfl, by simp, ⟨Nat.le_refl _, Nat.le_refl _, Nat.le_refl _, Nat.le_refl _, Nat.le_refl _⟩,
    .inr ⟨g, _, rfl, rfl, h, Nat.le_refl _, fun i hi => by
      obtain rfl : i = 0 := by simpa using hi
      exact ⟨rfl, rfl, rfl⟩⟩, .inl ⟨rfl, rfl⟩, .inl ⟨rfl, rfl⟩, .inl ⟨rfl, rfl⟩, .inl ⟨rfl, rfl⟩⟩
theorem small_one {k : Int} {x : It} (h : x.t.size ≤ 1048576) : Small 1 (vecOf k [x]) := small_vecOf (by simp) (fun y hy => by obtain rfl := List.mem_singleton.1 hy; exact h)
end Go.Proofs.YtddebgmjolojeaaDoor

/- MissingIn of the program. -/
namespace Go.Proofs.YtddebgmjolojeaaDoor
open Go.RowKit
set_option maxRecDepth 100000
set_option linter.unusedVariables false

def itemsV (v : Vec) : List It := match v with | .mk _ items _ _ _ _ _ _ => items
def namesV (v : Vec) : List ByteArray := match v with | .mk _ _ _ names _ _ _ _ => names
def OneMiss (p : Vec) : Prop := (itemsV p).length = 1 ∧ ((itemsV p).getD 0 noI).d = 0
noncomputable def missI (p : Vec) : Int := match bB (OneMiss p) with | true => 1 | false => 0
/-- An element whose single item, if missing, is nothing else. -/
def GoodE (p : Vec) : Prop := (itemsV p).length = 1 → ((itemsV p).getD 0 noI).d = 0 → (itemsV p).getD 0 noI = noI
/-- What MissingIn answers. -/
noncomputable def missV (v : Vec) : Vec := match bB (ValidV v) with | true => mkN 1 (itF (fun i => logI (missI ((elems v).getD i noV))) (elems v).length) (namesV v) | false => noV
noncomputable def missS (v : Vec) : ByteArray := match bB (ValidV v) with | true => ⟨#[]⟩ | false => badB
end Go.Proofs.YtddebgmjolojeaaDoor

/- NotVector of the reference. -/
namespace Go.Proofs.YtddebgmjolojeaaDoor
open Go.RowKit
set_option maxRecDepth 100000
set_option linter.unusedVariables false

/-- The ints while they are turned over, one by one. -/
def TurnL (w wr : World) (sa : Option Addr) (n k : Nat) (f : Nat → Int) : Prop :=
  n = 0 ∨ ∃ b C, sa = some ⟨b, 0, none⟩ ∧ w.heap.size + 2 ≤ b ∧ wr.heap[b]? = some (.cells C 3 (0, 0)) ∧ n ≤ C.size ∧ ∀ i, i < n → C[i]? = some (.int .i64 (if i < k then nL (f i) else f i))
theorem TurnL.start {w wr : World} {B : Nat} {sa : Option Addr} {n c : Nat} {f : Nat → Int} (h : wr.ownsRow B 3 1 (.slice sa n c) n (intsF f n)) (hB : w.heap.size + 2 ≤ B) : TurnL w wr sa n 0 f := by
  obtain ⟨_, h⟩ := h
  rcases h with ⟨e, h0⟩ | ⟨g, cap, cur, e, hg, hb, hc, _, hs, ht⟩
  · exact .inl h0
  · simp only [Value.slice.injEq] at e
    obtain ⟨rfl, _, rfl⟩ := e
    refine .inr ⟨g, cur, rfl, by omega, hb, by omega, fun i hi => ?_⟩
    have h1 : (cur.toList.take (n * 1))[i]? = (intsF f n)[i]? := by rw [ht]
    rw [List.getElem?_take_of_lt (by omega), Array.getElem?_toList] at h1
    rw [h1, if_neg (Nat.not_lt_zero i)]; unfold intsF; simp [hi]
theorem TurnL.ints {w wr : World} {sa : Option Addr} {n : Nat} {f : Nat → Int} (h : TurnL w wr sa n n f) : IntsAt wr.heap.size wr sa n (fun i => nL (f i)) := by
  rcases h with rfl | ⟨b, C, rfl, _, hb, hn, r⟩
  · exact fun i hi => absurd hi (Nat.not_lt_zero _)
  · intro i hi
    refine ⟨b, 0, rfl, (Array.getElem?_eq_some_iff.1 hb).1, ?_⟩
    rw [Nat.zero_add]
    have := r i hi
    rw [if_pos hi] at this
    exact cellOf hb this
end Go.Proofs.YtddebgmjolojeaaDoor

/- Lengths and names of a recycled result, in the reference. -/
namespace Go.Proofs.YtddebgmjolojeaaDoor
open Go.RowKit
set_option maxRecDepth 100000
set_option linter.unusedVariables false

def namesL (l0 l1 n : Nat) (names0 names1 : List ByteArray) : List ByteArray := if l0 = n ∧ 0 < names0.length then names0 else if l1 = n then names1 else []
def sizeL (m n : Nat) : Int := if m = 0 ∨ n = 0 then 0 else if max m n % min m n ≠ 0 then -1 else (max m n : Nat)
end Go.Proofs.YtddebgmjolojeaaDoor

/- Lengths and names of a recycled result, in the program. -/
namespace Go.Proofs.YtddebgmjolojeaaDoor
open Go.RowKit
set_option maxRecDepth 100000
set_option linter.unusedVariables false

def recN (m n : Nat) : Nat := if m = 0 ∨ n = 0 then 0 else max m n
/-- The names of a recycled result, as the program finds them. -/
def namesR (N : Nat) (names0 names1 : List ByteArray) : List ByteArray := if N = names0.length then names0 else if N = names1.length then names1 else []
end Go.Proofs.YtddebgmjolojeaaDoor

/- recycleItems of the program. -/
namespace Go.Proofs.YtddebgmjolojeaaDoor
open Go.RowKit
set_option maxRecDepth 100000
set_option linter.unusedVariables false

theorem ItR.form {w wr : World} {l : List It} {v : Value} (h : ItR w wr l v) : ∃ s n c, v = .slice s n c := by
  obtain ⟨_, h | ⟨g, cap, cur, e, _⟩⟩ := h.row
  · exact ⟨_, _, _, h.1⟩
  · exact ⟨_, _, _, e⟩
end Go.Proofs.YtddebgmjolojeaaDoor

/- Summaries as data: the elements that are taken, folds, the answers. -/
namespace Go.Proofs.YtddebgmjolojeaaDoor
open Go.RowKit
set_option maxRecDepth 100000
set_option linter.unusedVariables false

/-- "non-numeric argument", "no elements" -/
def nonNumB : ByteArray := ⟨#[110, 111, 110, 45, 110, 117, 109, 101, 114, 105, 99, 32, 97, 114, 103, 117, 109, 101, 110, 116]⟩
def noElB : ByteArray := ⟨#[110, 111, 32, 101, 108, 101, 109, 101, 110, 116, 115]⟩
/-- Is an element taken? -/
def keepI (drop : Bool) (x : It) : Bool := !drop || !(x.d == 0)
def pickL (drop : Bool) (l : List It) : List It := l.filter (keepI drop)
/-- A result that fits: no text, ints. -/
def GoodI (x : It) : Prop := InB x ∧ x.t = ⟨#[]⟩
theorem GoodI.t0 {x : It} (h : GoodI x) : x.t.size ≤ 9223372036854775807 := by rw [h.2]; exact Nat.zero_le _

def sumL (l : List It) : It := l.foldl addI (mkI 0 1)
def prodL (l : List It) : It := l.foldl mulI (mkI 1 1)
def meanL (l : List It) : It := divI (sumL l) (mkI l.length 1)
def sqI (m : It) (s x : It) : It := addI s (mulI (subI x m) (subI x m))
def varL (l : List It) : It := divI (l.foldl (sqI (meanL l)) (mkI 0 1)) (mkI ((l.length - 1 : Nat) : Int) 1)
/-- The running sums. -/
def runL (l : List It) : List It := itF (fun i => sumL (l.take (i + 1))) l.length
/-- The elements of which a summary is made, the problem, the answer. -/
noncomputable def smyL (drop : Bool) (v : Vec) : List It := match bB (ValidV v ∧ Counts v) with | true => pickL drop (itemsV v) | false => []
noncomputable def smyS (u : ByteArray) (v : Vec) : ByteArray := match bB (ValidV v), bB (Counts v) with | false, _ => badB | true, false => u | true, true => ⟨#[]⟩
noncomputable def smyV (S : List It → It) (drop : Bool) (v : Vec) : Vec := match bB (ValidV v ∧ Counts v) with | true => vecOf 2 [S (pickL drop (itemsV v))] | false => noV
theorem NumIt.t0 {x : It} (h : NumIt x) : x.t.size ≤ 9223372036854775807 := by rw [h.t]; exact Nat.zero_le _
end Go.Proofs.YtddebgmjolojeaaDoor

/- The elements of a vector as the parts of a list, in blocks of the call's own. -/
namespace Go.Proofs.YtddebgmjolojeaaDoor
open Go.RowKit
set_option maxRecDepth 100000
set_option linter.unusedVariables false

/-- How deep the elements of a vector of depth d are. -/
def elmD (d : Nat) (v : Vec) : Nat := if kindV v = 5 then d else if kindV v = 4 then d - 1 else 1
theorem elmD_fun {d : Nat} {items : List It} {parts : List Vec} {names cls levels : List ByteArray} {code env : Int} : elmD d (.mk 5 items parts names cls levels code env) = d := rfl
theorem elmD_list {d d' : Nat} {items : List It} {parts : List Vec} {names cls levels : List ByteArray} {code env : Int} (h : d = d' + 1) : elmD d (.mk 4 items parts names cls levels code env) = d' := by subst h; rfl
theorem elmD_its {d : Nat} {k : Int} {items : List It} {parts : List Vec} {names cls levels : List ByteArray} {code env : Int} (h5 : k ≠ 5) (h4 : k ≠ 4) : elmD d (.mk k items parts names cls levels code env) = 1 := by
  show (if k = 5 then _ else if k = 4 then _ else _) = _
  rw [if_neg h5, if_neg h4]
/-- What elementsOf answers, owned. -/
def ElmOwn (v : Vec) (d : Nat) (w : World) (e : Ending) (w' : World) : Prop := ∃ y F, e = .returned y ∧ OwnParts w' (elmD d v) y (elems v) F ∧ F.Nodup ∧ (∀ b ∈ F, w.heap.size ≤ b ∧ b < w'.heap.size) ∧ Below w.heap.size w w'
set_option maxHeartbeats 4000000 in
theorem implElemsO (d : Nat) (v : Vec) (val : Value) (lo hi : Nat) (w : World) (hv : VecAt lo hi w d v val) (hhi : hi ≤ w.heap.size) (hsm : Small d v) (hval : ValidV v) :
    Calls Tryd.prog 65 #[val] w (ElmOwn v d w) := by
  have CV := Lib.hid (fun (w1 : World) (hb : Below w.heap.size w w1) => (icvAll d).out v val lo hi w1 (hv.below hb hhi) (Nat.le_trans hhi hb.size) hsm)
  have HSM := Lib.hid hsm
  obtain ⟨VV, hVV⟩ : ∃ V, v = V := ⟨_, rfl⟩
  rw [hVV] at CV HSM ⊢
  obtain ⟨kk, items, parts, names, cls, levels, code, env⟩ := v
  obtain ⟨d', ai, ci, ap, cp, an, cn, ac, cc, al, cl, ed, rfl, hI, hN, hC, hL, hP⟩ := vecAt_open hv
  have hf : FlatOk kk items parts.length names cls levels code env := hval.1.flat
  have hsp : ∀ i, i < parts.length → Small d' (parts.getD i noV) := fun i hi => by subst ed; exact hsm.part hi
  have li : items.length ≤ 1048576 := by subst ed; exact hsm.1
  have lp : parts.length ≤ 1048576 := by subst ed; exact hsm.2.1
  have hit : ∀ x ∈ items, x.t.size ≤ 1048576 := by subst ed; exact hsm.2.2.2.2.2.1
  have AI := Lib.hid (fun (k : Nat) (w1 : World) (hk : k < items.length) (hb : Below w.heap.size w w1) => (hI.below hb hhi).at_ hk)
  have CP := Lib.hid (fun (w1 : World) (hb : Below w.heap.size w w1) => (icsAll d').out parts ap cp lo hi w1 (hP.below hb hhi) (Nat.le_trans hhi hb.size) hsp lp)
  have B0 := Lib.hid (below1 w (.cells #[.int .i64 kk, .slice ai items.length ci, .slice ap parts.length cp, .slice an names.length cn, .slice ac cls.length cc, .slice al levels.length cl, .int .i64 code, .int .i64 env] 31))
  have K0 := Lib.hid (blk_new w (.cells #[.int .i64 kk, .slice ai items.length ci, .slice ap parts.length cp, .slice an names.length cn, .slice ac cls.length cc, .slice al levels.length cl, .int .i64 code, .int .i64 env] 31) rfl)
  by_cases h5 : kk = 5
  · subst h5
    have XE := Lib.hid (elems_fun hVV.symm)
    have XD := Lib.hid (show elmD d VV = d by rw [← hVV]; exact elmD_fun)
    clear hv hI hN hC hL hP hsm ed hVV hf AI CP hval
    go_enter Tryd.func65, Tryd.ntmps65
    go_wp2_with fail
    with_reducible refine (CV.out _ B0.out).mono ?_
    rintro e w2 ⟨y, rfl, ho, hb⟩
    obtain ⟨yk, ya1, yn1, ym1, ya2, yn2, ym2, ya3, yn3, ym3, ya4, yn4, ym4, ya5, yn5, ym5, yc, ye, rfl⟩ := ho.agg
    have HO := Lib.hid ho
    have B2 := Lib.hid (below_then B0.out hb)
    clear ho hb
    go_wp2
    go_ret
    have hb := blk_new w2 (.cells #[.int .i64 yk, .slice ya1 yn1 ym1, .slice ya2 yn2 ym2, .slice ya3 yn3 ym3, .slice ya4 yn4 ym4, .slice ya5 yn5 ym5, .int .i64 yc, .int .i64 ye] 31) rfl
    obtain ⟨F, g1, g2, g3⟩ := HO.out.out
    have hw := B0.out.size
    refine ⟨_, w2.heap.size :: F, rfl, ?_, ?_, fun b hb' => ?_, B2.out.alloc B2.out.size _⟩
    · rw [XE.out, XD.out]
      refine ⟨_, 1, rfl, Nat.le_refl _, .inr ⟨w2.heap.size, _, [F], by simp, rfl, rfl, hb, Nat.le_refl _, fun i hi => ?_⟩⟩
      obtain rfl : i = 0 := by have : i < 1 := hi; omega
      exact ⟨_, g1.kept _ _ _ _ (fun b hm => (below1 w2 _).block b (g3 b hm).2), ⟨_, _, _, _, _, _, _, _, rfl, rfl, rfl, rfl, rfl, rfl, rfl, rfl, rfl⟩⟩
    · exact List.nodup_cons.2 ⟨fun hm => by have := (g3 _ hm).2; omega, g2⟩
    · have hs : (w2.alloc (.cells #[.int .i64 yk, .slice ya1 yn1 ym1, .slice ya2 yn2 ym2, .slice ya3 yn3 ym3, .slice ya4 yn4 ym4, .slice ya5 yn5 ym5, .int .i64 yc, .int .i64 ye] 31)).heap.size = w2.heap.size + 1 := by simp
      rcases List.mem_cons.1 hb' with rfl | hm
      · exact ⟨B2.out.size, by rw [hs]; omega⟩
      · have := g3 b hm; exact ⟨by omega, by rw [hs]; omega⟩
  by_cases h4 : kk = 4
  · subst h4
    have hni : items.length = 0 := hf.h_list rfl
    have XE := Lib.hid (show elems VV = parts by rw [← hVV]; rfl)
    have XD := Lib.hid (show elmD d VV = d' by rw [← hVV]; exact elmD_list ed)
    have SP := Lib.hid hsp
    clear hv hI hN hC hL hP hsm ed hVV hf AI CV hval hsp hit HSM li lp h5
    rw [hni] at B0 K0 ⊢
    clear hni
    go_enter Tryd.func65, Tryd.ntmps65
    go_wp2_with fail
    with_reducible refine (CP.out _ B0.out).mono ?_
    rintro e w2 ⟨v, F, rfl, hp, hn, hr, hb, _⟩
    obtain ⟨a, c, rfl, h1, h2⟩ := id hp
    have HP := Lib.hid hp
    have HN := Lib.hid hn
    have HR := Lib.hid (fun b hb' => (⟨Nat.le_trans (by simp) (hr b hb').1, (hr b hb').2⟩ : w.heap.size ≤ b ∧ b < w2.heap.size))
    have B2 := Lib.hid (below_then B0.out hb)
    have K2 := Lib.hid (blk_below hb K0.out)
    clear hp hn hr hb h1 h2
    obtain ⟨k0, k1, k2, k3, k4, k5, k6, k7⟩ := vec8 K2.out
    go_wp2
    refine wp_loop_rounds 1 ?_
    rw [rounds_succ]
    go_wp2
    go_ret
    exact ⟨_, F, rfl, by rw [XE.out, XD.out]; exact HP.out, HN.out, HR.out, B2.out⟩
  · have hnp : parts.length = 0 := hf.h_noParts h4
    have XE := Lib.hid (show elems VV = items.map (fun x => vecOf kk [x]) by rw [← hVV]; exact elems_items h5 h4)
    have XD := Lib.hid (show elmD d VV = 1 by rw [← hVV]; exact elmD_its h5 h4)
    have h5b : (kk == 5) = false := by simp [h5]
    obtain ⟨S, hS⟩ : ∃ S : List Vec, items.map (fun x => vecOf kk [x]) = S := ⟨_, rfl⟩
    have SL := Lib.hid (show S.length = items.length by rw [← hS]; simp)
    have SG := Lib.hid (fun i (hi : i < items.length) => (by rw [← hS]; simp [List.getD_eq_getElem?_getD, hi] : S.getD i noV = vecOf kk [items.getD i noI]))
    have SS := Lib.hid (fun i (hi : i < items.length) => (by rw [SG.out i hi]; exact small_one (hit _ (by rw [List.getD_eq_getElem?_getD, List.getElem?_eq_getElem hi]; exact List.getElem_mem hi)) : Small 1 (S.getD i noV)))
    rw [hS] at XE
    have RS := Lib.hid (fun (w2 : World) (v : Value) (xs : List Value) (h : w2.ownsRow w.heap.size 31 8 v 0 xs) (hb : Below w.heap.size w w2) => (⟨⟨[], [], rfl, rfl, by have : xs = [] := List.eq_nil_of_length_eq_zero (by simpa using h.1); subst this; exact h, fun i h => absurd h (Nat.not_lt_zero _), List.nodup_nil, fun b h => by cases h⟩, hb⟩ : RowV w w2 1 S 0 v))
    have FIN := Lib.hid (fun (wr : World) (v : Value) (h : RowV w wr 1 S S.length v) => h.parts)
    rw [SL.out] at FIN
    clear hv hI hN hC hL hP hsm ed hVV hf CV hval hsp hit HSM lp hS h5
    have HNP := Lib.hid hnp
    rw [hnp] at B0 K0 CP ⊢
    clear hnp
    obtain ⟨n, hn'⟩ : ∃ n, items.length = n := ⟨_, rfl⟩
    rw [hn'] at AI SL SG SS FIN B0 K0 li ⊢
    clear hn'
    obtain ⟨i0, hi0, hz0, hz1, hz2⟩ := info_parts infoVec8
    go_enter Tryd.func65, Tryd.ntmps65
    go_wp2_with fail
    with_reducible refine (CP.out _ B0.out).mono ?_
    rintro e w2 ⟨v, F, rfl, hp, hn, hr, hb, xs, hx⟩
    obtain ⟨a, c, rfl, _, _⟩ := id hp
    have ST := Lib.hid (RS.out _ _ _ (HNP.out ▸ ownsRow_base hx (by simp)) (below_then B0.out hb))
    have NB := Lib.hid (show (Value.slice a 0 c).ownBlock ≠ some w.heap.size by
      intro e
      have h1 := ((HNP.out ▸ hx : w2.ownsRow _ _ _ (.slice a 0 c) _ _).lt _ e).1
      have h2 : (w.alloc (.cells #[.int .i64 kk, .slice ai n ci, .slice ap 0 cp, .slice an names.length cn, .slice ac cls.length cc, .slice al levels.length cl, .int .i64 code, .int .i64 env] 31)).heap.size = w.heap.size + 1 := by simp
      omega)
    have KA2 := Lib.hid (blk_below hb K0.out)
    clear hp hn hr hb hx
    obtain ⟨k0, k1, k2, k3, k4, k5, k6, k7⟩ := vec8 KA2.out
    go_wp2
    clear k0 k1 k2 k3 k4 k5 k6 k7
    go_loopw [3, 18] (fun v i wr => ∃ k : Nat, k ≤ n ∧ i = .int .i64 k ∧ RowV w wr 1 S k v ∧ wr.heap[w.heap.size]? = some (.cells #[.int .i64 kk, .slice ai n ci, .slice ap 0 cp, .slice an names.length cn, .slice ac cls.length cc, .slice al levels.length cl, .int .i64 code, .int .i64 env] 31 (0, 0)) ∧ v.ownBlock ≠ some w.heap.size) (fun _ i _ => n - (intOf i).toNat)
    case atStart => exact ⟨0, Nat.zero_le _, rfl, by rw [HNP.out]; exact ST.out, KA2.out, by rw [HNP.out]; exact NB.out⟩
    case round =>
      obtain ⟨k, hk, rfl, hrv, hka, hnb⟩ := hrel
      have NB := Lib.hid hnb
      clear hnb
      have RV := Lib.hid hrv
      have KA := Lib.hid hka
      clear hrv hka
      by_cases hlt : k < n
      · obtain ⟨ba, off, rfl, hbB, c0, c1, c2⟩ := AI.out _ _ hlt RV.out.below
        have hbw : ba < wr.heap.size := Nat.lt_of_lt_of_le (Nat.lt_of_lt_of_le hbB hhi) RV.out.below.size
        have hz := (Array.getElem?_eq_some_iff.1 KA.out).1
        have hSk := SG.out k hlt
        obtain ⟨⟨xn, xd, xt⟩, hx⟩ : ∃ x : It, items.getD k noI = x := ⟨_, rfl⟩
        have ht : txtI items k = xt := by unfold txtI; rw [hx]
        rw [ht] at c2
        rw [hx] at hSk
        simp only [hx] at c0 c1
        have HSk := Lib.hid hSk
        clear hSk hx ht
        obtain ⟨k0, k1, k2, k3, k4, k5, k6, k7⟩ := vec8 KA.out
        obtain ⟨w1, hw1⟩ : ∃ W, (wr.alloc (.cells #[.int .i64 xn, .int .i64 xd, .string xt] 67)).alloc (.cells #[.int .i64 xn, .int .i64 xd, .string xt] 67) = W := ⟨_, rfl⟩
        have hsz : (wr.alloc (.cells #[.int .i64 xn, .int .i64 xd, .string xt] 67)).heap.size = wr.heap.size + 1 := by simp
        have BW := Lib.hid (show Below wr.heap.size wr w1 from hw1 ▸ (below1 wr _).alloc (by simp) _)
        have KG := Lib.hid (show w1.heap[wr.heap.size + 1]? = some (.cells #[.int .i64 xn, .int .i64 xd, .string xt] 67 (0, 0)) from hw1 ▸ hsz ▸ blk_new (wr.alloc (.cells #[.int .i64 xn, .int .i64 xd, .string xt] 67)) (.cells #[.int .i64 xn, .int .i64 xd, .string xt] 67) rfl)
        have ES := Lib.hid (show w1.heap.size = wr.heap.size + 1 + 1 from hw1 ▸ (by simp))
        have EW := Lib.hid hw1
        clear hw1 hsz
        obtain ⟨xs, hxs⟩ := RV.out.row
        have XS := Lib.hid hxs
        have OR := Lib.hid (ownsRow_below (ownsRow_below hxs BW.out) (below1 w1 (.cells #[.int .i64 kk, .slice (some ⟨wr.heap.size + 1, 0, none⟩) 1 1, .slice none 0 0, .slice none 0 0, .slice none 0 0, .slice none 0 0, .int .i64 0, .int .i64 0] 31)))
        have HO := Lib.hid (show Own 1 (S.getD k noV) (.agg #[.int .i64 kk, .slice (some ⟨wr.heap.size + 1, 0, none⟩) 1 1, .slice none 0 0, .slice none 0 0, .slice none 0 0, .slice none 0 0, .int .i64 0, .int .i64 0]) (wr.heap.size + 1) w1.heap.size w1 from by rw [HSk.out, ES.out]; exact own_one (x := ⟨xn, xd, xt⟩) KG.out)
        have S1 := Lib.hid (show w.heap.size ≤ wr.heap.size from RV.out.below.size)
        have KA1 := Lib.hid (blk_below (below1 w1 (.cells #[.int .i64 kk, .slice (some ⟨wr.heap.size + 1, 0, none⟩) 1 1, .slice none 0 0, .slice none 0 0, .slice none 0 0, .slice none 0 0, .int .i64 0, .int .i64 0] 31)) (blk_below BW.out KA.out))
        clear hxs
        go_wp2_with (at_builtin; rw [EW.out]; refine wpList_append_own_at _ rfl _ _ 29 rfl w.heap.size 31 i0 _ 8 144 Tryd.underlying29 hi0 hz0 hz1 hz2 rfl (by decide) _ k xs rfl OR.out ⟨w1.heap.size, 0, none⟩ 1 1 [.int .i64 kk, .slice (some ⟨wr.heap.size + 1, 0, none⟩) 1 1, .slice none 0 0, .slice none 0 0, .slice none 0 0, .slice none 0 0, .int .i64 0, .int .i64 0] (by rw [ES.out]; rfl) rfl ?c1 ?c2 ?c3 ?c4 ?c5 ?_)
        case c1 =>
          intro j u hj
          have hlt : j < 8 := by have := (List.getElem?_eq_some_iff.1 hj).1; simpa using this
          rw [addr_add, Nat.zero_add]
          refine cellOf (blk_new w1 _ rfl) ?_
          rw [← hj]
          rcases (show j = 0 ∨ j = 1 ∨ j = 2 ∨ j = 3 ∨ j = 4 ∨ j = 5 ∨ j = 6 ∨ j = 7 by omega) with rfl | rfl | rfl | rfl | rfl | rfl | rfl | rfl <;> rfl
        case c2 => intro u hu; simp only [List.mem_cons, List.not_mem_nil, or_false] at hu; rcases hu with rfl | rfl | rfl | rfl | rfl | rfl | rfl | rfl <;> rfl
        case c3 => unfold maxLen; omega
        case c4 => omega
        case c5 => have := S1.out; have := ES.out; simp; omega
        intro v' w3 hown' hgrow _ hwh
        have NBN := Lib.hid (show v'.ownBlock ≠ some w.heap.size from fun e => by
          rcases hwh with h | h
          · exact NB.out (h ▸ e)
          · rw [e] at h; have h2 := Option.some.inj h; have := ES.out; omega)
        have NX := Lib.hid (RV.out.next HO.out (Nat.le_succ _) BW.out hgrow (fun ys hy => ownsRow_same XS.out hy ▸ hown') (by simpa using hwh))
        have KAN := Lib.hid ((hgrow.block w.heap.size (by have := ES.out; simp; omega) (fun e => NB.out e.symm)).trans KA1.out)
        clear hown' hgrow hwh k0 k1 k2 k3 k4 k5 k6 k7
        go_wp2
        go_roundw
        case rel => exact ⟨k + 1, by omega, by go_num, NX.out, KAN.out, NBN.out⟩
        case measure => simp [intOf]; omega
      · obtain rfl : k = n := by omega
        obtain ⟨F, h1, h2, h3⟩ := FIN.out _ _ RV.out
        obtain ⟨a, c, rfl, _, _⟩ := id h1
        have HV := Lib.hid h1
        have H2 := Lib.hid h2
        have H3 := Lib.hid h3
        clear h1 h2 h3
        go_wp2
        go_ret
        exact ⟨_, F, rfl, by rw [XE.out, XD.out]; exact HV.out, H2.out, H3.out, RV.out.below⟩
end Go.Proofs.YtddebgmjolojeaaDoor

/- A region that draws its order where two operations that change the world may come up at once: the orders as a tree. -/
namespace Go.Proofs.YtddebgmjolojeaaDoor
set_option maxRecDepth 100000
open Go.RowKit
set_option linter.unusedVariables false

/-- An order, or an order behind which either of two operations comes up. -/
inductive Plan where
  | leaf (r : List (Nat × Bool))
  | fork (r : List (Nat × Bool)) (i : Nat) (p : Plan) (j : Nat) (q : Plan)
def Plan.cons (i : Nat) : Plan → Plan
  | .leaf r => .leaf ((i, false) :: r)
  | .fork r j p k q => .fork ((i, false) :: r) j p k q
def Plan.len : Plan → Nat
  | .leaf r => r.length
  | .fork r _ p _ _ => r.length + (p.len + 1)
section
variable {P : Program} {ops : Array Oper} {Q : Exit → Act → World → Prop} {S : World → Prop}
theorem wp_weak {Q' : Exit → Act → World → Prop} {o : Oper} {a : Act} {w : World} {K : Act → World → Prop} (hP : ∀ c a w, Q' (.panic c) a w → Q (.panic c) a w) (hL : LetsOut Q' → LetsOut Q) (hh : o.wp P a w K Q') : o.wp P a w K Q := by
  unfold Oper.wp at *
  generalize (execOp a.eval o).run P w = r at *
  cases r with
  | ok n w' =>
    cases n <;> simp only [Oper.upon] at hh ⊢ <;>
      first
        | exact hh
        | exact Calls.mono hh (fun e w'' he => by cases e <;> first | exact he | exact hP _ _ _ he | exact hL he)
  | halt x w' => cases x <;> simp only [Oper.upon] at hh ⊢ <;> first | exact hP _ _ _ hh | exact hh
theorem wpOp_weak {Q' : Exit → Act → World → Prop} {i : Nat} {a : Act} {w : World} {K : Act → World → Prop} (hP : ∀ c a w, Q' (.panic c) a w → Q (.panic c) a w) (hL : LetsOut Q' → LetsOut Q) (hh : wpOp P ops Q' i K a w) : wpOp P ops Q i K a w := by
  unfold wpOp at *
  split
  · simpa [*] using hh
  · rename_i o ho
    simp only [ho] at hh
    split
    · rename_i hw; simp only [hw, if_true] at hh; exact hh.imp (wp_weak hP hL) (fun h => ⟨h.1, hL h.2⟩)
    · rename_i hw; simp only [hw] at hh; exact hh
/-- What a fork asks at its end, and Q for all other exits. -/
def forkQ (Q : Exit → Act → World → Prop) (F : Act → World → Prop) : Exit → Act → World → Prop := fun x a w => match x with | .normal => F a w | y => Q y a w
def preOK (ops : Array Oper) : List (Nat × Bool) → Array Bool → Bool
  | [], _ => true
  | (i, true) :: r, listed => Region.free .any ops listed i && (Region.ready .any ops listed).contains i && preOK ops r (listed.setIfInBounds i true)
  | (i, false) :: r, listed => (Region.ready .any ops listed == [i]) && preOK ops r (listed.setIfInBounds i true)
def behind : List (Nat × Bool) → Array Bool → Array Bool
  | [], l => l
  | (i, _) :: r, l => behind r (l.setIfInBounds i true)
def planOK (ops : Array Oper) : Plan → Array Bool → Bool
  | .leaf r, l => schedOK ops r l
  | .fork r i p j q, l => preOK ops r l && (Region.ready .any ops (behind r l) == [i, j]) && !lastK ops i && !lastK ops j && Nat.beq p.len q.len && planOK ops p ((behind r l).setIfInBounds i true) && planOK ops q ((behind r l).setIfInBounds j true)
def seqP (P : Program) (ops : Array Oper) (Q : Exit → Act → World → Prop) (S : World → Prop) : Plan → Act → World → Prop
  | .leaf r, a, w => seqH P ops Q S r a w
  | .fork r i p j q, a, w => seqH P ops (forkQ Q fun a' w' => S w' ∧ wpOp P ops Q i (fun b v => (lastK ops i = true ∨ S v) ∧ seqP P ops Q S p b v) a' w' ∧ wpOp P ops Q j (fun b v => (lastK ops j = true ∨ S v) ∧ seqP P ops Q S q b v) a' w') S r a w
theorem pre_nil {r : List (Nat × Bool)} {l : Array Bool} (h : preOK ops r l = true) (hr : Region.ready .any ops l = []) : r = [] := by
  match r, h with
  | [], _ => rfl
  | (i, true) :: r, h => simp [preOK, hr] at h
  | (i, false) :: r, h => simp [preOK, hr] at h
theorem pre_sound {Q' : Exit → Act → World → Prop} (hs : Region.noSelect ops = true) (hQ : ∀ c a d v w, Q (.panic c) (Act.put a (some d) v) w → Q (.panic c) a w) (hQQ : ∀ c a w, Q' (.panic c) a w → Q (.panic c) a w) (hLL : LetsOut Q' → LetsOut Q) (n : Nat) :
    ∀ (r : List (Nat × Bool)) (listed : Array Bool) (a : Act) (w : World), preOK ops r listed = true → (r = [] ∨ S w) → seqH P ops Q' S r a w → (∀ a' w', Q' .normal a' w' → wpAnyL P ops Q S n (behind r listed) a' w') → wpAnyL P ops Q S (r.length + n) listed a w
  | [], listed, a, w, h, _, hq, hn => by
    rw [show ([] : List (Nat × Bool)).length + n = n by simp]
    exact hn a w hq
  | (i, true) :: r, listed, a, w, h, hS, hq, hn => by
    simp only [preOK, Bool.and_eq_true] at h
    obtain ⟨o, v, d, ho, hd, hy, hq⟩ := hq
    have hS := hS.resolve_left (by simp)
    have := pre_sound hs hQ hQQ hLL n r _ _ _ h.2 (.inr hS) hq hn
    rw [show ((i, true) :: r).length + n = (r.length + n) + 1 by simp; omega]
    exact takeL ho hs (fun c a w => by rw [hd]; exact hQ c a _ _ w) _ _ _ _ h.1.1 (by simpa using h.1.2) hy hS (by rw [hd]; exact this)
  | (i, false) :: r, listed, a, w, h, hS, hq, hn => by
    simp only [preOK, Bool.and_eq_true, beq_iff_eq] at h
    rw [show ((i, false) :: r).length + n = (r.length + n) + 1 by simp; omega]
    refine ⟨fun h0 => absurd (h.1.symm.trans h0) (by simp), fun j hj => ?_⟩
    have hji := hj
    rw [h.1] at hji
    obtain rfl : j = i := by simpa using hji
    change wpOp P ops Q' j (fun a' w' => (lastK ops j = true ∨ S w') ∧ seqH P ops Q' S r a' w') a w at hq
    have hq := wpOp_weak hQQ hLL hq
    refine wpOp_mono (fun a' w' ⟨h1, h2⟩ => ⟨h1, pre_sound hs hQ hQQ hLL n r _ _ _ h.2 ?_ h2 hn⟩) hq
    exact h1.imp (fun hl => pre_nil h.2 (lastK_none hl hj)) id
/-- RunE over a plan. -/
def RunT (P : Program) (ops : Array Oper) (Q : Exit → Act → World → Prop) (S : World → Prop) : Plan → Act → List (Nat × Value) → World → Prop
  | .leaf r, a, e, w => RunE P ops Q S r a e w
  | .fork r i p j q, a, e, w => RunE P ops (forkQ Q fun a' w' => S w' ∧ wpOp P ops Q i (fun b v => (lastK ops i = true ∨ S v) ∧ seqP P ops Q S p b v) a' w' ∧ wpOp P ops Q j (fun b v => (lastK ops j = true ∨ S v) ∧ seqP P ops Q S q b v) a' w') S r a e w
theorem RunT.out {p : Plan} {a : Act} {e : List (Nat × Value)} {w : World} (h : RunT P ops Q S p a e w) (hk : keysIn a.tmps.size e) : seqP P ops Q S p (putAll a e) w := by
  cases p with
  | leaf r => exact RunE.out h hk
  | fork r i p j q => exact RunE.out h hk
end
section
variable {P : Program} {ops : Array Oper} {Q : Exit → Act → World → Prop} {S : World → Prop}
variable {r : List (Nat × Bool)} {a : Act} {e : List (Nat × Value)} {w : World} {i d : Nat} {g : Option (Nat × Bool)}
end
section
variable {P : Program} {ops : Array Oper} {Q : Exit → Act → World → Prop} {S : World → Prop}
variable {r : List (Nat × Bool)} {a : Act} {e : List (Nat × Value)} {w : World} {i d : Nat} {g : Option (Nat × Bool)}
end
/-- A vector stored whole into a block that holds one. -/
theorem store_vec8 {w : World} {b : Nat} {z0 z1 z2 z3 z4 z5 z6 z7 c0 c1 c2 c3 c4 c5 c6 c7 : Value} (h : w.heap[b]? = some (.cells #[z0, z1, z2, z3, z4, z5, z6, z7] 31 (0, 0))) (h1 : (#[c0, c1, c2, c3, c4, c5, c6, c7] : Array Value).all (·.oneCell') = true) :
    (Instr.storeAt 31 (.pointer (some ⟨b, 0, none⟩)) (.agg #[c0, c1, c2, c3, c4, c5, c6, c7])).run Tryd.prog w = .ok () (w.setRow b #[c0, c1, c2, c3, c4, c5, c6, c7]) := by
  have e := run_storeVar_row (P := Tryd.prog) w b _ 31 #[z0, z1, z2, z3, z4, z5, z6, z7] #[c0, c1, c2, c3, c4, c5, c6, c7] h infoVec rfl h1
  simp only [Instr.storeAt, Instr.sureAddr, Sem.run_bind, Sem.run_pure, Result.andThen_ok, e]
theorem Own.row {d : Nat} {V : Vec} {y : Value} {lo hi g : Nat} {c : Array Value} {w : World} (h : Own d V y lo hi w) (hg : g < lo) : Own d V y lo hi (w.setRow g c) := by
  obtain ⟨F, q1, q2, q3⟩ := h.out
  exact ⟨F, q1.kept _ _ _ _ (fun b hb => row_old rfl (by have := (q3 b hb).1; omega)), q2, q3⟩
theorem row_size (w : World) (g : Nat) (c : Array Value) : w.heap.size ≤ (w.setRow g c).heap.size := (below_row (Below.refl 0 w) (Nat.zero_le _) c).size
/-- A block that was made in a region. -/
structure NewB (b : Nat) (t : TypeId) (C : Array Value) (w : World) : Prop where
  out : w.heap[b]? = some (.cells C t (0, 0))
theorem NewB.keep {b : Nat} {t : TypeId} {C : Array Value} {w w1 : World} (h : NewB b t C w) (hb : Below w.heap.size w w1) : NewB b t C w1 := ⟨blk_below hb h.out⟩
end Go.Proofs.YtddebgmjolojeaaDoor

/- A region in which several operations that change the world come up at once, in any order: an invariant over what is done, the values that they left, and the world. -/
namespace Go.Proofs.YtddebgmjolojeaaDoor
set_option maxRecDepth 100000
open Go.RowKit
set_option linter.unusedVariables false

/-- The puts of those operations of D (operation, slot) that are done, in D's order. -/
def putsI (D : List (Nat × Nat)) (l : Array Bool) (V : Nat → Value) : List (Nat × Value) :=
  (D.filter fun p => l.getD p.1 false).map fun p => (p.2, V p.2)
def updI (V : Nat → Value) (d : Nat) (v : Value) : Nat → Value := fun k => match Nat.beq d k with | true => v | false => V k
theorem updI_same (V : Nat → Value) (d : Nat) (v : Value) : updI V d v d = v := by simp [updI]
theorem updI_ne (V : Nat → Value) {d k : Nat} (v : Value) (h : d ≠ k) : updI V d v k = V k := by
  unfold updI
  cases hb : Nat.beq d k with
  | true => exact absurd (Nat.eq_of_beq_eq_true hb) h
  | false => rfl
theorem putAll_app (a : Act) : ∀ (x y : List (Nat × Value)), putAll a (x ++ y) = putAll (putAll a y) x
  | [], y => rfl
  | (d, v) :: x, y => by simp [putAll, putAll_app a x y]
theorem put_comm (a : Act) {d k : Nat} (v u : Value) (h : d ≠ k) : (a.put (some d) v).put (some k) u = (a.put (some k) u).put (some d) v := by
  simp only [Act.put]
  rw [Array.setIfInBounds_comm _ _ h]
theorem putsI_cons (p : Nat × Nat) (D : List (Nat × Nat)) (l : Array Bool) (V : Nat → Value) : putsI (p :: D) l V = (if l.getD p.1 false then [(p.2, V p.2)] else []) ++ putsI D l V := by
  unfold putsI
  cases h : l.getD p.1 false with
  | false => rw [List.filter_cons_of_neg (by show ¬ (l.getD p.1 false = true); rw [h]; decide)]; rfl
  | true => rw [List.filter_cons_of_pos (by show l.getD p.1 false = true; exact h)]; rfl
theorem putsI_keys {D : List (Nat × Nat)} {l : Array Bool} {V : Nat → Value} {N : Nat} (h : ∀ p ∈ D, p.2 < N) : keysIn N (putsI D l V) := by
  intro p hp
  unfold putsI at hp
  obtain ⟨q, hq, rfl⟩ := List.mem_map.1 hp
  exact h q (List.mem_filter.1 hq).1
theorem putsI_skip {D : List (Nat × Nat)} {l : Array Bool} {V : Nat → Value} {i d : Nat} {v : Value} (h1 : ∀ p ∈ D, p.1 ≠ i) (h2 : ∀ p ∈ D, p.2 ≠ d) : putsI D (l.setIfInBounds i true) (updI V d v) = putsI D l V := by
  induction D with
  | nil => rfl
  | cons p D ih =>
    rw [putsI_cons, putsI_cons, ih (fun q hq => h1 q (List.mem_cons_of_mem _ hq)) (fun q hq => h2 q (List.mem_cons_of_mem _ hq))]
    have e1 : (l.setIfInBounds i true).getD p.1 false = l.getD p.1 false := by
      simp [Array.getD_eq_getD_getElem?, Array.getElem?_setIfInBounds_ne (Ne.symm (h1 p (List.mem_cons_self ..)))]
    rw [e1, updI_ne V v (Ne.symm (h2 p (List.mem_cons_self ..)))]
/-- Its own put takes its place among the puts. -/
theorem putsI_put (a : Act) {i d : Nat} {v : Value} {l : Array Bool} {V : Nat → Value} (hi : i < l.size) (hl : l.getD i false = false) :
    ∀ (D : List (Nat × Nat)), (D.map (·.1)).Nodup → (D.map (·.2)).Nodup → (i, d) ∈ D → (putAll a (putsI D l V)).put (some d) v = putAll a (putsI D (l.setIfInBounds i true) (updI V d v))
  | [], _, _, h => by cases h
  | p :: D, n1, n2, h => by
    rw [List.map_cons, List.nodup_cons] at n1 n2
    rw [putsI_cons, putsI_cons]
    rcases List.mem_cons.1 h with h | h
    · obtain rfl := h
      have q1 : ∀ q ∈ D, q.1 ≠ i := fun q hq he => n1.1 (by rw [← he]; exact List.mem_map.2 ⟨q, hq, rfl⟩)
      have q2 : ∀ q ∈ D, q.2 ≠ d := fun q hq he => n2.1 (by rw [← he]; exact List.mem_map.2 ⟨q, hq, rfl⟩)
      rw [putsI_skip q1 q2]
      have e1 : (l.setIfInBounds i true).getD i false = true := by simp [Array.getD_eq_getD_getElem?, hi]
      simp [hl, e1, putAll, updI_same]
    · have q1 : p.1 ≠ i := fun he => n1.1 (by rw [he]; exact List.mem_map.2 ⟨_, h, rfl⟩)
      have q2 : p.2 ≠ d := fun he => n2.1 (by rw [he]; exact List.mem_map.2 ⟨_, h, rfl⟩)
      have ih := putsI_put a (v := v) (V := V) hi hl D n1.2 n2.2 h
      have e1 : (l.setIfInBounds i true).getD p.1 false = l.getD p.1 false := by
        simp [Array.getD_eq_getD_getElem?, Array.getElem?_setIfInBounds_ne (Ne.symm q1)]
      rw [e1, updI_ne V v (Ne.symm q2)]
      cases hb : l.getD p.1 false with
      | false => simpa using ih
      | true =>
        show ((putAll a (putsI D l V)).put (some p.2) (V p.2)).put (some d) v = (putAll a (putsI D (l.setIfInBounds i true) (updI V d v))).put (some p.2) (V p.2)
        rw [put_comm _ _ _ q2, ih]
/-- What the slots of D hold. -/
theorem look_done {D : List (Nat × Nat)} {l : Array Bool} {V : Nat → Value} {a : Act} {e : List (Nat × Value)} {i k : Nat} (n2 : (D.map (·.2)).Nodup) (h : (i, k) ∈ D) (hl : l.getD i false = true) : lookAt a (putsI D l V ++ e) k = V k := by
  induction D with
  | nil => cases h
  | cons p D ih =>
    rw [List.map_cons, List.nodup_cons] at n2
    rw [putsI_cons]
    rcases List.mem_cons.1 h with h | h
    · obtain rfl := h
      simp [hl, lookAt]
    · have q2 : p.2 ≠ k := fun he => n2.1 (by rw [he]; exact List.mem_map.2 ⟨_, h, rfl⟩)
      have ih := ih n2.2 h
      cases hb : l.getD p.1 false with
      | false => simpa using ih
      | true =>
        have hne : Nat.beq p.2 k = false := by
          cases hx : Nat.beq p.2 k with
          | true => exact absurd (Nat.eq_of_beq_eq_true hx) q2
          | false => rfl
        show (match Nat.beq p.2 k with | true => V p.2 | false => lookAt a (putsI D l V ++ e) k) = _
        rw [hne]; exact ih
theorem look_other {D : List (Nat × Nat)} {l : Array Bool} {V : Nat → Value} {a : Act} {e : List (Nat × Value)} {k : Nat} (h : D.all (fun p => !Nat.beq p.2 k) = true) : lookAt a (putsI D l V ++ e) k = lookAt a e k := by
  induction D with
  | nil => rfl
  | cons p D ih =>
    rw [List.all_cons, Bool.and_eq_true] at h
    rw [putsI_cons]
    have ih := ih h.2
    cases hb : l.getD p.1 false with
    | false => simpa using ih
    | true =>
      have hne : Nat.beq p.2 k = false := by simpa using h.1
      show (match Nat.beq p.2 k with | true => V p.2 | false => lookAt a (putsI D l V ++ e) k) = _
      rw [hne]; exact ih

section
variable {P : Program} {ops : Array Oper} {Q : Exit → Act → World → Prop} {S : World → Prop}
def sameB (l l' : Array Bool) : Bool := l.toList == l'.toList
theorem sameB_eq {l l' : Array Bool} (h : sameB l l' = true) : l = l' := by
  unfold sameB at h
  exact Array.toList_inj.1 (eq_of_beq h)
/-- From l, whatever comes up is one of D's operations, what it depends on is done, and it leads to one of Ls. -/
def nextOK (ops : Array Oper) (D dep : List (Nat × Nat)) (Ls : List (Array Bool)) (l : Array Bool) : Bool :=
  match Region.ready .any ops l with
  | [] => false
  | R => R.all fun i => (D.any fun p => Nat.beq p.1 i) && !lastK ops i && Nat.blt i l.size && !l.getD i false && (dep.all fun p => !Nat.beq p.1 i || l.getD p.2 false) && Ls.any (sameB (l.setIfInBounds i true))
/-- Whatever order is taken from here: the states come in layers, the last of them is L, and then come the operations of q, in q's order. -/
def anyOK (ops : Array Oper) (D dep : List (Nat × Nat)) (q : List (Nat × Bool)) (L : Array Bool) : List (List (Array Bool)) → List (Array Bool) → Bool
  | [], cur => cur.all fun l => sameB l L && schedOK ops q l
  | Ls :: rest, cur => cur.all (nextOK ops D dep Ls) && anyOK ops D dep q L rest Ls
/-- What one operation of D must do. -/
def StepI (P : Program) (ops : Array Oper) (S : World → Prop) (J : Array Bool → (Nat → Value) → World → Prop) (D dep : List (Nat × Nat)) (a : Act) (e : List (Nat × Value)) (i d : Nat) : Prop :=
  ∀ l V w, J l V w → S w → i < l.size → l.getD i false = false → (∀ k, (i, k) ∈ dep → l.getD k false = true) →
    ∀ Q' : Exit → Act → World → Prop, (∀ v w', S w' → J (l.setIfInBounds i true) (updI V d v) w' → RunE P ops Q' S [] a ((d, v) :: (putsI D l V ++ e)) w') → RunE P ops Q' S [(i, false)] a (putsI D l V ++ e) w
theorem inv_sound {J : Array Bool → (Nat → Value) → World → Prop} {D dep : List (Nat × Nat)} {q : List (Nat × Bool)} {L : Array Bool} {a : Act} {e : List (Nat × Value)} (hs : Region.noSelect ops = true) (hQ : ∀ c a d v w, Q (.panic c) (Act.put a (some d) v) w → Q (.panic c) a w)
    (n1 : (D.map (·.1)).Nodup) (n2 : (D.map (·.2)).Nodup) (hk : ∀ p ∈ D, p.2 < a.tmps.size) (hke : keysIn a.tmps.size e) (hstep : ∀ p ∈ D, StepI P ops S J D dep a e p.1 p.2) (hend : ∀ V w, J L V w → S w → RunE P ops Q S q a (putsI D L V ++ e) w) :
    ∀ (Y : List (List (Array Bool))) (cur : List (Array Bool)) (l : Array Bool) (V : Nat → Value) (w : World), anyOK ops D dep q L Y cur = true → l ∈ cur → J l V w → S w → wpAnyL P ops Q S (Y.length + q.length) l (putAll a (putsI D l V ++ e)) w
  | [], cur, l, V, w, h, hl, hJ, hS => by
    have k0 := List.all_eq_true.1 h l hl
    simp only [Bool.and_eq_true] at k0
    obtain rfl := sameB_eq k0.1
    rw [List.length_nil, Nat.zero_add]
    refine seq_sound hs hQ q _ _ _ k0.2 (.inr hS) ((hend V w hJ hS).out ?_)
    intro p hp
    rcases List.mem_append.1 hp with hp | hp
    · exact putsI_keys hk p hp
    · exact hke p hp
  | Ls :: Y, cur, l, V, w, h, hl, hJ, hS => by
    simp only [anyOK, Bool.and_eq_true] at h
    obtain ⟨h, hrest⟩ := h
    have h := List.all_eq_true.1 h l hl
    rw [show (Ls :: Y).length + q.length = (Y.length + q.length) + 1 by simp only [List.length_cons]; omega]
    have hR : Region.ready .any ops l ≠ [] ∧ ∀ i ∈ Region.ready .any ops l, ((D.any fun p => Nat.beq p.1 i) && !lastK ops i && Nat.blt i l.size && !l.getD i false && (dep.all fun p => !Nat.beq p.1 i || l.getD p.2 false) && Ls.any (sameB (l.setIfInBounds i true))) = true := by
      unfold nextOK at h
      generalize Region.ready .any ops l = R at h ⊢
      cases R with
      | nil => cases h
      | cons i R => exact ⟨by simp, List.all_eq_true.1 h⟩
    refine ⟨fun h0 => absurd h0 hR.1, fun i hi => ?_⟩
    have h := hR.2 i hi
    simp only [Bool.and_eq_true, List.all_eq_true, List.any_eq_true, Bool.not_eq_true'] at h
    obtain ⟨⟨⟨⟨⟨⟨p, hp, hpi⟩, hlast⟩, hsz⟩, hun⟩, hdep⟩, l2, hl2, hn⟩ := h
    have hn := sameB_eq hn
    obtain rfl := Nat.eq_of_beq_eq_true hpi
    have hkk : keysIn a.tmps.size (putsI D l V ++ e) := by
      intro p hp
      rcases List.mem_append.1 hp with hp | hp
      · exact putsI_keys hk p hp
      · exact hke p hp
    have hdep' : ∀ k, (p.1, k) ∈ dep → l.getD k false = true := fun k hk => by
      have := hdep (p.1, k) hk
      simpa using this
    have hst := hstep p hp l V w hJ hS (Nat.le_of_ble_eq_true hsz) hun hdep' (forkQ Q fun a' w' => wpAnyL P ops Q S (Y.length + q.length) (l.setIfInBounds p.1 true) a' w') (fun v w' hS' hJ' => run_done (by
      show wpAnyL P ops Q S (Y.length + q.length) (l.setIfInBounds p.1 true) (putAll a ((p.2, v) :: (putsI D l V ++ e))) w'
      have := inv_sound hs hQ n1 n2 hk hke hstep hend Y Ls (l.setIfInBounds p.1 true) (updI V p.2 v) w' hrest (hn ▸ hl2) hJ' hS'
      rw [putAll_app, ← putsI_put (putAll a e) (Nat.le_of_ble_eq_true hsz) hun D n1 n2 hp, ← putAll_app] at this
      exact this))
    exact wpOp_weak (Q' := forkQ Q fun a' w' => wpAnyL P ops Q S (Y.length + q.length) (l.setIfInBounds p.1 true) a' w') (fun c a w h => h) (fun h => h) (hst.out hkk)
/-- A region: first r (what is ready at once and changes nothing), then D's operations in any order, then q. -/
theorem run_regionI {id : Nat} {ops' : Array Oper} {a : Act} {w : World} (r q : List (Nat × Bool)) (D dep : List (Nat × Nat)) (J : Array Bool → (Nat → Value) → World → Prop) (e : List (Nat × Value)) (V0 : Nat → Value) (Y : List (List (Array Bool))) (hops : ops' = ops) (hm : P.follows .mixedOrders = true) (hs : Region.noSelect ops = true)
    (hlen : Nat.beq (r.length + (Y.length + q.length)) ops.size = true) (hpre : preOK ops r (Array.replicate ops.size false) = true)
    (hany : anyOK ops D dep q (behind (D.map fun p => (p.1, false)) (behind r (Array.replicate ops.size false))) Y [behind r (Array.replicate ops.size false)] = true)
    (hD : (D.map (·.1)).Nodup ∧ (D.map (·.2)).Nodup) (hnone : D.all (fun p => !(behind r (Array.replicate ops.size false)).getD p.1 false) = true) (hk : D.all (fun p => Nat.blt p.2 a.tmps.size) = true) (hke : e.all (fun p => Nat.blt p.1 a.tmps.size) = true)
    (hQ : ∀ c a d v w, Q (.panic c) (Act.put a (some d) v) w → Q (.panic c) a w) (hS : S w.drew)
    (h : ∀ Q' : Exit → Act → World → Prop, RunE P ops Q' S [] a e w.drew → RunE P ops Q' S r a [] w.drew)
    (hJ : J (behind r (Array.replicate ops.size false)) V0 w.drew)
    (hstep : ∀ p ∈ D, StepI P ops S J D dep a e p.1 p.2)
    (hend : ∀ V w, J (behind (D.map fun p => (p.1, false)) (behind r (Array.replicate ops.size false))) V w → S w → RunE P ops Q S q a (putsI D (behind (D.map fun p => (p.1, false)) (behind r (Array.replicate ops.size false))) V ++ e) w) :
    (Code.region id ops' true).wp P Q a w := by
  subst hops
  refine wp_region_any hm (wpAny_of_L (S := S) _ _ _ _ ?_)
  have hl := Nat.eq_of_beq_eq_true hlen
  show wpAnyL P ops' Q S ops'.size (Array.replicate ops'.size false) a w.drew
  generalize Array.replicate ops'.size false = L at *
  rw [← hl]
  have hk' : ∀ p ∈ D, p.2 < a.tmps.size := fun p hp => Nat.le_of_ble_eq_true (List.all_eq_true.1 hk p hp)
  have hke' : keysIn a.tmps.size e := fun p hp => Nat.le_of_ble_eq_true (List.all_eq_true.1 hke p hp)
  have hz : ∀ D' : List (Nat × Nat), D'.all (fun p => !(behind r L).getD p.1 false) = true → putsI D' (behind r L) V0 = [] := by
    intro D'
    induction D' with
    | nil => intro _; rfl
    | cons p D' ih =>
      intro hh
      rw [List.all_cons, Bool.and_eq_true] at hh
      rw [putsI_cons, ih hh.2]
      have : (behind r L).getD p.1 false = false := by simpa using hh.1
      simp [this]
  refine pre_sound (Q' := forkQ Q fun a' w' => a' = putAll a e ∧ w' = w.drew) hs hQ (fun c a w h => h) (fun h => h) (Y.length + q.length) r L a w.drew hpre (.inr hS) ((h _ (run_done ⟨rfl, rfl⟩)).out (fun p hp => by cases hp)) ?_
  rintro a' w' ⟨rfl, rfl⟩
  have := inv_sound (e := e) hs hQ hD.1 hD.2 hk' hke' hstep hend Y [behind r L] (behind r L) V0 w.drew hany (List.mem_singleton.2 rfl) hJ hS
  rw [hz D hnone] at this
  exact this
end
end Go.Proofs.YtddebgmjolojeaaDoor

/- Several slices of the call's own that are made and filled in any order: the invariant for RegI. -/
namespace Go.Proofs.YtddebgmjolojeaaDoor
set_option maxRecDepth 100000
open Go.RowKit
set_option linter.unusedVariables false

/-- A slice literal of no elements. -/
theorem run_buildSlice0 {P : Program} (w : World) (t el : TypeId) (ie : TypeInfo) (hu : P.underlying t = some (.slice el)) (hie : P.info? el = some ie) :
    (Instr.buildSlice t 0 #[]).run P w = .ok (.slice (some ⟨w.heap.size, 0, none⟩) 0 0) (w.alloc (.cells #[] el)) := by
  simp [Instr.buildSlice, run_underlying hu, sizeOf, typeInfo, hie, newRow, Instr.fill]
  congr 2
  exact Array.eq_empty_of_size_eq_zero (by simp)
theorem ownsRow_kept {w w' : World} {base : Nat} {el : TypeId} {size n : Nat} {v : Value} {xs : List Value} (h : w.ownsRow base el size v n xs) (k : ∀ g, v.ownBlock = some g → w'.heap[g]? = w.heap[g]?) : w'.ownsRow base el size v n xs := by
  obtain ⟨hl, h⟩ := h
  refine ⟨hl, h.imp id ?_⟩
  rintro ⟨g, cap, cur, rfl, hB, hg, h⟩
  exact ⟨g, cap, cur, rfl, hB, (k g rfl).trans hg, h⟩
/-- One slice: operation i makes it (slot d), operation i2 appends n elements, xs, to it (slot d2). -/
structure Ch where
  i : Nat
  d : Nat
  i2 : Nat
  d2 : Nat
  el : TypeId
  size : Nat
  n : Nat
  xs : List Value
def Ch.cur (c : Ch) (l : Array Bool) (V : Nat → Value) : Value := match l.getD c.i2 false with
  | true => V c.d2
  | false => match l.getD c.i false with
    | true => V c.d
    | false => .slice none 0 0
def Ch.num (c : Ch) (l : Array Bool) : Nat := match l.getD c.i2 false with | true => c.n | false => 0
def Ch.row (c : Ch) (l : Array Bool) : List Value := match l.getD c.i2 false with | true => c.xs | false => []
/-- Operation i and slot d are none of c's. -/
def Ch.apart (c : Ch) (i d : Nat) : Bool := !Nat.beq c.i i && !Nat.beq c.i2 i && !Nat.beq c.d d && !Nat.beq c.d2 d
def Chs.apart (C : List Ch) : Bool := C.all fun c => C.all fun c' => Nat.beq c.i c'.i || (c.apart c'.i c'.d && c.apart c'.i2 c'.d2)
theorem beq_ne {a b : Nat} (h : Nat.beq a b = false) : a ≠ b := fun e => by subst e; simp at h
theorem getD_set_off {l : Array Bool} {i j : Nat} (h : j ≠ i) : (l.setIfInBounds i true).getD j false = l.getD j false := by
  simp [Array.getD_eq_getD_getElem?, Array.getElem?_setIfInBounds_ne (Ne.symm h)]
theorem getD_set_on {l : Array Bool} {i : Nat} (h : i < l.size) : (l.setIfInBounds i true).getD i false = true := by
  simp [Array.getD_eq_getD_getElem?, h]
theorem Ch.same {c : Ch} {i d : Nat} {l : Array Bool} {V : Nat → Value} {v : Value} (h : c.apart i d = true) : c.cur (l.setIfInBounds i true) (updI V d v) = c.cur l V ∧ c.num (l.setIfInBounds i true) = c.num l ∧ c.row (l.setIfInBounds i true) = c.row l := by
  simp only [Ch.apart, Bool.and_eq_true, Bool.not_eq_true'] at h
  obtain ⟨⟨⟨h1, h2⟩, h3⟩, h4⟩ := h
  unfold Ch.cur Ch.num Ch.row
  rw [getD_set_off (beq_ne h1), getD_set_off (beq_ne h2), updI_ne V v (Ne.symm (beq_ne h3)), updI_ne V v (Ne.symm (beq_ne h4))]
  exact ⟨rfl, rfl, rfl⟩
theorem Ch.off {c : Ch} {i d : Nat} {l : Array Bool} (h : c.apart i d = true) : (l.setIfInBounds i true).getD c.i2 false = l.getD c.i2 false ∧ (l.setIfInBounds i true).getD c.i false = l.getD c.i false := by
  simp only [Ch.apart, Bool.and_eq_true, Bool.not_eq_true'] at h
  obtain ⟨⟨⟨h1, h2⟩, h3⟩, h4⟩ := h
  exact ⟨getD_set_off (beq_ne h2), getD_set_off (beq_ne h1)⟩
/-- Each slice is what its operations made of it; no block belongs to two of them, none to X. -/
structure JCh (base : Nat) (C : List Ch) (X : List Nat) (l : Array Bool) (V : Nat → Value) (w : World) : Prop where
  seq : ∀ c ∈ C, l.getD c.i2 false = true → l.getD c.i false = true
  own : ∀ c ∈ C, w.ownsRow base c.el c.size (c.cur l V) (c.num l) (c.row l)
  two : ∀ c ∈ C, ∀ c' ∈ C, c.i ≠ c'.i → ∀ g, (c.cur l V).ownBlock = some g → (c'.cur l V).ownBlock ≠ some g
  out : ∀ c ∈ C, ∀ g, (c.cur l V).ownBlock = some g → g ∉ X
/-- One of c's operations: its slice is v' now. -/
theorem JCh.step {base : Nat} {C : List Ch} {X : List Nat} {l : Array Bool} {V : Nat → Value} {w w' : World} {c : Ch} {i d : Nat} {v' : Value} (h : JCh base C X l V w) (hc : c ∈ C) (hap : ∀ c' ∈ C, c'.i ≠ c.i → c'.apart i d = true) (hX : ∀ g ∈ X, g < w.heap.size) (hu : ∀ c' ∈ C, c'.i = c.i → c' = c)
    (hseq : (l.setIfInBounds i true).getD c.i2 false = true → (l.setIfInBounds i true).getD c.i false = true) (hcur : c.cur (l.setIfInBounds i true) (updI V d v') = v')
    (hown : w'.ownsRow base c.el c.size v' (c.num (l.setIfInBounds i true)) (c.row (l.setIfInBounds i true)))
    (hold : ∀ g, g < w.heap.size → (c.cur l V).ownBlock ≠ some g → w'.heap[g]? = w.heap[g]?) (hwh : v'.ownBlock = (c.cur l V).ownBlock ∨ v'.ownBlock = some w.heap.size) :
    JCh base C X (l.setIfInBounds i true) (updI V d v') w' := by
  have hb : ∀ c' ∈ C, c'.i ≠ c.i → ∀ g, (c'.cur l V).ownBlock = some g → v'.ownBlock ≠ some g := by
    intro c' hc' hne g hg he
    rcases hwh with e | e
    · exact h.two c' hc' c hc hne g hg (e ▸ he)
    · rw [e] at he
      simp only [Option.some.injEq] at he
      have := ((h.own c' hc').lt g hg).2
      omega
  refine ⟨fun c' hc' => ?_, fun c' hc' => ?_, fun c1 h1 c2 h2 hne g hg => ?_, fun c' hc' g hg => ?_⟩
  · by_cases e : c'.i = c.i
    · obtain rfl := hu c' hc' e
      exact hseq
    · rw [(Ch.off (l := l) (hap c' hc' e)).1, (Ch.off (l := l) (hap c' hc' e)).2]
      exact h.seq c' hc'
  · by_cases e : c'.i = c.i
    · obtain rfl := hu c' hc' e
      rw [hcur]; exact hown
    · obtain ⟨e1, e2, e3⟩ := Ch.same (l := l) (V := V) (v := v') (hap c' hc' e)
      rw [e1, e2, e3]
      exact ownsRow_kept (h.own c' hc') fun g hg => hold g ((h.own c' hc').lt g hg).2 (fun he => h.two c' hc' c hc e g hg he)
  · by_cases e : c1.i = c.i
    · obtain rfl := hu c1 h1 e
      rw [hcur] at hg
      rw [(Ch.same (l := l) (V := V) (v := v') (hap c2 h2 (Ne.symm hne))).1]
      exact fun he => hb c2 h2 (Ne.symm hne) g he hg
    · rw [(Ch.same (l := l) (V := V) (v := v') (hap c1 h1 e)).1] at hg
      by_cases e2 : c2.i = c.i
      · obtain rfl := hu c2 h2 e2
        rw [hcur]; exact hb c1 h1 e g hg
      · rw [(Ch.same (l := l) (V := V) (v := v') (hap c2 h2 e2)).1]
        exact h.two c1 h1 c2 h2 hne g hg
  · by_cases e : c'.i = c.i
    · obtain rfl := hu c' hc' e
      rw [hcur] at hg
      intro hx
      rcases hwh with e1 | e1
      · exact h.out c' hc' g (e1 ▸ hg) hx
      · rw [e1] at hg
        simp only [Option.some.injEq] at hg
        have := hX g hx
        omega
    · rw [(Ch.same (l := l) (V := V) (v := v') (hap c' hc' e)).1] at hg
      exact h.out c' hc' g hg
/-- Another operation, which leaves all blocks alone and makes the blocks X' (all new, or X's). -/
theorem JCh.other {base : Nat} {C : List Ch} {X X' : List Nat} {l : Array Bool} {V : Nat → Value} {w w' : World} {i d : Nat} {v' : Value} (h : JCh base C X l V w) (hap : ∀ c' ∈ C, c'.apart i d = true) (hb : ∀ g, g < w.heap.size → w'.heap[g]? = w.heap[g]?) (hX : ∀ g ∈ X', w.heap.size ≤ g) :
    JCh base C X' (l.setIfInBounds i true) (updI V d v') w' := by
  refine ⟨fun c' hc' => ?_, fun c' hc' => ?_, fun c1 h1 c2 h2 hne g hg => ?_, fun c' hc' g hg hx => ?_⟩
  · rw [(Ch.off (l := l) (hap c' hc')).1, (Ch.off (l := l) (hap c' hc')).2]
    exact h.seq c' hc'
  · obtain ⟨e1, e2, e3⟩ := Ch.same (l := l) (V := V) (v := v') (hap c' hc')
    rw [e1, e2, e3]
    exact ownsRow_kept (h.own c' hc') fun g hg => hb g ((h.own c' hc').lt g hg).2
  · rw [(Ch.same (l := l) (V := V) (v := v') (hap c1 h1)).1] at hg
    rw [(Ch.same (l := l) (V := V) (v := v') (hap c2 h2)).1]
    exact h.two c1 h1 c2 h2 hne g hg
  · rw [(Ch.same (l := l) (V := V) (v := v') (hap c' hc')).1] at hg
    have := ((h.own c' hc').lt g hg).2
    have := hX g hx
    omega
/-- The invariant: the slices of C, the blocks X of all else, and T. -/
def JJ (base : Nat) (C : List Ch) (T : List Nat → Array Bool → (Nat → Value) → World → Prop) (l : Array Bool) (V : Nat → Value) (w : World) : Prop := ∃ X, JCh base C X l V w ∧ (∀ g ∈ X, g < w.heap.size) ∧ base ≤ w.heap.size ∧ T X l V w
/-- T keeps through the operations of C. -/
structure KeepT (C : List Ch) (T : List Nat → Array Bool → (Nat → Value) → World → Prop) : Prop where
  out : ∀ X l V w w' i d v', (∃ c ∈ C, (i = c.i ∧ d = c.d) ∨ (i = c.i2 ∧ d = c.d2)) → T X l V w → (∀ g ∈ X, w'.heap[g]? = w.heap[g]?) → w.heap.size ≤ w'.heap.size → T X (l.setIfInBounds i true) (updI V d v') w'
section
variable {P : Program} {ops : Array Oper} {S : World → Prop} {D dep : List (Nat × Nat)} {a : Act} {e : List (Nat × Value)} {base : Nat} {C : List Ch} {T : List Nat → Array Bool → (Nat → Value) → World → Prop}
structure ChsOK (C : List Ch) : Prop where
  ap : ∀ c ∈ C, ∀ c' ∈ C, c'.i ≠ c.i → c'.apart c.i c.d = true ∧ c'.apart c.i2 c.d2 = true
  eq : ∀ c ∈ C, ∀ c' ∈ C, c'.i = c.i → c' = c
  ne : ∀ c ∈ C, c.i ≠ c.i2 ∧ c.d ≠ c.d2
/-- A slice is made. -/
theorem stepMake {t : TypeId} {ie : TypeInfo} {c : Ch} (hC : ChsOK C) (hc : c ∈ C) (hT : KeepT C T) (ho : opAt ops c.i = some (some c.d, .buildSlice t 0 #[], none)) (hd : Nat.blt c.d a.tmps.size = true) (hu : P.underlying t = some (.slice c.el)) (hie : P.info? c.el = some ie)
    (hS : ∀ w, base ≤ w.heap.size → S w → S (w.alloc (.cells #[] c.el))) : StepI P ops S (JJ base C T) D dep a e c.i c.d := by
  intro l V w hJ hs hsz hun _ Q' h
  obtain ⟨X, hj, hX, hb, ht⟩ := hJ
  have h2 : l.getD c.i2 false = false := by
    cases hh : l.getD c.i2 false with
    | false => rfl
    | true => rw [hj.seq c hc hh] at hun; cases hun
  have hcur : c.cur l V = .slice none 0 0 := by unfold Ch.cur; rw [h2, hun]
  have hoff : (l.setIfInBounds c.i true).getD c.i2 false = false := by rw [getD_set_off (Ne.symm (hC.ne c hc).1)]; exact h2
  have hon : (l.setIfInBounds c.i true).getD c.i false = true := getD_set_on hsz
  have hold : ∀ g, g < w.heap.size → (w.alloc (.cells #[] c.el)).heap[g]? = w.heap[g]? := fun g hg => (below1 w _).block g hg
  refine run_eff (op := .buildSlice t 0 #[]) ho hd rfl (fun o h1 => by
    unfold execOp
    have hb := run_buildSlice0 (P := P) w t c.el ie hu hie
    simp only [h1, List.map_toArray, List.map_nil, Sem.run_bind, hb, Result.andThen_ok]
    rfl) (hS w hb hs) (h _ _ (hS w hb hs) ⟨X, ?_, fun g hg => ?_, ?_, ?_⟩)
  · refine hj.step hc (fun c' hc' hne => (hC.ap c hc c' hc' hne).1) hX (hC.eq c hc) (fun hh => by rw [hoff] at hh; cases hh) ?_ ?_ (fun g hg _ => hold g hg) (.inr rfl)
    · unfold Ch.cur; rw [hoff, hon]; exact updI_same ..
    · unfold Ch.num Ch.row; rw [hoff]
      exact ⟨by simp, .inr ⟨w.heap.size, 0, #[], rfl, hb, blk_new w _ rfl, Nat.le_refl _, Nat.zero_le _, by simp, by simp⟩⟩
  · have := hX g hg; have := (below1 w (.cells #[] c.el)).size; omega
  · exact Nat.le_trans hb (below1 w (.cells #[] c.el)).size
  · exact hT.out X l V w _ c.i c.d _ ⟨c, hc, .inl ⟨rfl, rfl⟩⟩ ht (fun g hg => hold g (hX g hg)) (below1 w (.cells #[] c.el)).size
end
/-- Nothing is appended. -/
theorem run_app0W {P : Program} {w : World} {t el ty : TypeId} {ie : TypeInfo} {v0 : Value} (hu : P.underlying t = some (.slice el)) (hie : P.info? el = some ie) (hv : v0 = .slice none 0 0 ∨ ∃ g k, v0 = .slice (some ⟨g, 0, none⟩) 0 k) (ad : Option Addr) (c : Nat) :
    (Builtin.append_ #[t, t] ty #[v0, .slice ad 0 c]).run P w = .ok v0 w := by
  rcases ad with _ | ad <;> rcases hv with rfl | ⟨g, k, rfl⟩ <;> simp [Builtin.append_, run_underlying hu, sizeOf, typeInfo, hie, Builtin.lenOf, Builtin.firstCells, loadCells, loadCellsFrom, storeCells]
section
variable {P : Program} {ops : Array Oper} {Q : Exit → Act → World → Prop} {S : World → Prop}
variable {r : List (Nat × Bool)} {a : Act} {e : List (Nat × Value)} {w : World} {i d : Nat} {g : Option (Nat × Bool)} {v : Value}
/-- An append onto a row of the call's own, and where the new row lies. -/
theorem run_appW {t el : TypeId} {x y : Operand} {v0 : Value} (ho : opAt ops i = some (some d, .call { callee := .builtin .append, args := [x, y].toArray, argTypes := [t, t].toArray }, g)) (hd : Nat.blt d a.tmps.size = true) (hw : wantE ops a e g = some true)
    (hx : lookO a e x = v0) (ad : Option Addr) (m c : Nat) (hy : lookO a e y = .slice ad m c)
    (base : Nat) (ie : TypeInfo) (z : Value) (size bytes : Nat) (ht : P.underlying t = some (.slice el)) (hi : P.info? el = some ie) (hz : ie.zero = some z) (hsize : ie.size = size) (hby : ie.bytes = bytes) (hzs : z.cells.size = size) (hsz : 0 < size)
    (hown : w.ownsRow base el size v0 0 []) (news : List Value) (hl : news.length = m * size) (hnews : 0 < m → ∃ b : Addr, ad = some b ∧ ∀ j u, news[j]? = some u → w.cell? (b.add j) = some u) (h1 : ∀ u ∈ news, u.oneCell' = true)
    (h63 : m ≤ maxLen) (hbytes : m * bytes ≤ 140737488355328) (hbase : base ≤ w.heap.size)
    (h : ∀ v' w', w'.ownsRow base el size v' m news → w.grownBy w' v0.ownBlock → (v'.ownBlock = v0.ownBlock ∨ v'.ownBlock = some w.heap.size) → S w' ∧ RunE P ops Q S r a ((d, v') :: e) w') : RunE P ops Q S ((i, false) :: r) a e w := by
  refine ⟨fun hk => ?_⟩
  obtain ⟨o, hi', k1, k2, k3⟩ := opAt_spec ho
  show wpOp P ops Q i (fun a' w' => (lastK ops i = true ∨ S w') ∧ seqH P ops Q S r a' w') (putAll a e) w
  unfold wpOp
  simp only [hi', if_pos (wantE_spec hk (by rw [k3]; exact hw))]
  left
  unfold Oper.wp
  rw [eval_putAll a e hk]
  by_cases hm : 0 < m
  · obtain ⟨b, rfl, hn2⟩ := hnews hm
    obtain ⟨v', w', hr, h2, h3, _, h4⟩ := run_append_own_at (P := P) w base t o.type el ie z size bytes ht hi hz hsize hby hzs hsz v0 0 [] hown b m c news hl hn2 h1 (by omega) (by rw [Nat.zero_add]; exact hbytes) hbase
    obtain ⟨hS, hR⟩ := h v' w' (by simpa using h2) h3 h4
    unfold execOp
    simp only [k2, resolve, invoke, builtin, Sem.run_bind, Sem.run_pure, Result.andThen_ok, List.map_toArray, List.map_cons, List.map_nil, hx, hy, hr]
    simp only [Oper.upon]
    rw [k1]
    exact ⟨.inr hS, hR.out (keysIn_cons hd hk)⟩
  · obtain rfl : m = 0 := by omega
    obtain rfl : news = [] := List.eq_nil_of_length_eq_zero (by simpa using hl)
    have hr := run_app0W (P := P) (w := w) (ty := o.type) (v0 := v0) ht hi (by
      obtain ⟨_, ⟨e, _⟩ | ⟨g, k, _, e, _⟩⟩ := hown
      · exact .inl e
      · exact .inr ⟨g, k, e⟩) ad c
    obtain ⟨hS, hR⟩ := h v0 w hown ⟨rfl, rfl, rfl, Nat.le_refl _, fun _ _ _ => rfl⟩ (.inl rfl)
    unfold execOp
    simp only [k2, resolve, invoke, builtin, Sem.run_bind, Sem.run_pure, Result.andThen_ok, List.map_toArray, List.map_cons, List.map_nil, hx, hy, hr]
    simp only [Oper.upon]
    rw [k1]
    exact ⟨.inr hS, hR.out (keysIn_cons hd hk)⟩
end
section
variable {P : Program} {ops : Array Oper} {S : World → Prop} {D dep : List (Nat × Nat)} {a : Act} {e : List (Nat × Value)} {base : Nat} {C : List Ch} {T : List Nat → Array Bool → (Nat → Value) → World → Prop}
/-- Its elements are appended to a slice. -/
theorem stepFill {t : TypeId} {ie : TypeInfo} {z : Value} {bytes : Nat} {c : Ch} {y : Nat} (hD : (D.map (·.2)).Nodup) (hcD : (c.i, c.d) ∈ D) (hy : D.all (fun p => !Nat.beq p.2 y) = true) (hdep : (c.i2, c.i) ∈ dep) (hC : ChsOK C) (hc : c ∈ C) (hT : KeepT C T)
    (ho : opAt ops c.i2 = some (some c.d2, .call { callee := .builtin .append, args := [.tmp c.d, .tmp y].toArray, argTypes := [t, t].toArray }, none)) (hd : Nat.blt c.d2 a.tmps.size = true) (hu : P.underlying t = some (.slice c.el)) (hie : P.info? c.el = some ie) (hz : ie.zero = some z) (hsize : ie.size = c.size) (hby : ie.bytes = bytes) (hzs : z.cells.size = c.size) (hsz : 0 < c.size)
    (sa : Option Addr) (cap : Nat) (hsrc : lookAt a e y = .slice sa c.n cap) (hxl : c.xs.length = c.n * c.size)
    (hnews : ∀ w, S w → 0 < c.n → ∃ ad : Addr, sa = some ad ∧ ∀ j u, c.xs[j]? = some u → w.cell? (ad.add j) = some u) (h1 : ∀ u ∈ c.xs, u.oneCell' = true) (h63 : c.n ≤ maxLen) (hbytes : c.n * bytes ≤ 140737488355328)
    (hS : ∀ w w' row, base ≤ w.heap.size → S w → (∀ k, row = some k → base ≤ k) → w.grownBy w' row → S w') : StepI P ops S (JJ base C T) D dep a e c.i2 c.d2 := by
  intro l V w hJ hs hlt hun hde Q' h
  obtain ⟨X, hj, hX, hb, ht⟩ := hJ
  have h1' := hde _ hdep
  have hcur : c.cur l V = V c.d := by unfold Ch.cur; rw [hun, h1']
  have hown := hj.own c hc
  have hnum : c.num l = 0 := by unfold Ch.num; rw [hun]
  have hrow : c.row l = [] := by unfold Ch.row; rw [hun]
  rw [hcur, hnum, hrow] at hown
  have hon : (l.setIfInBounds c.i2 true).getD c.i2 false = true := getD_set_on hlt
  refine run_appW (el := c.el) (v0 := V c.d) ho hd rfl (by show lookAt a (putsI D l V ++ e) c.d = _; exact look_done hD hcD h1') sa c.n cap (by show lookAt a (putsI D l V ++ e) y = _; rw [look_other hy]; exact hsrc) base ie z c.size bytes hu hie hz hsize hby hzs hsz hown c.xs hxl (hnews w hs) h1 h63 hbytes hb (fun v' w' h2 h3 h4 => ?_)
  have hS' := hS w w' _ hb hs (fun k hk => (hown.lt k hk).1) h3
  have hold : ∀ g, g < w.heap.size → (V c.d).ownBlock ≠ some g → w'.heap[g]? = w.heap[g]? := fun g hg hne => h3.block g hg (Ne.symm hne)
  refine ⟨hS', h _ _ hS' ⟨X, ?_, fun g hg => ?_, ?_, ?_⟩⟩
  · refine hj.step hc (fun c' hc' hne => (hC.ap c hc c' hc' hne).2) hX (hC.eq c hc) (fun _ => by rw [getD_set_off (hC.ne c hc).1]; exact h1') ?_ ?_ (by rw [hcur]; exact hold) (by rw [hcur]; exact h4)
    · unfold Ch.cur; rw [hon]; exact updI_same ..
    · unfold Ch.num Ch.row; rw [hon]; exact h2
  · have := hX g hg; have := h3.size; omega
  · exact Nat.le_trans hb h3.size
  · exact hT.out X l V w _ c.i2 c.d2 _ ⟨c, hc, .inr ⟨rfl, rfl⟩⟩ ht (fun g hg => hold g (hX g hg) (fun he => hj.out c hc g (by rw [hcur]; exact he) hg)) h3.size
end
end Go.Proofs.YtddebgmjolojeaaDoor

/- The reference's copy of a vector: the orders of its region. -/
namespace Go.Proofs.YtddebgmjolojeaaDoor
set_option maxRecDepth 100000
open Go.RowKit
set_option linter.unusedVariables false
noncomputable def cpyOps : Array Oper := opsOf Tryd.f62 1
def cpyR : List (Nat × Bool) := [(0, true), (1, true), (3, true), (4, true), (6, true), (7, true), (10, true), (11, true), (14, true), (15, true), (18, true), (19, true), (21, true), (22, true), (23, true), (24, true)]
def cpyD : List (Nat × Nat) := [(2, 5), (5, 8), (8, 11), (9, 12), (12, 15), (13, 16), (16, 19), (17, 20), (20, 23)]
def cpyDep : List (Nat × Nat) := [(5, 2), (12, 9), (16, 13), (20, 17)]
def cpyL0 : Array Bool := behind cpyR (Array.replicate 27 false)
def cpyL1 : Array Bool := behind (cpyD.map fun p => (p.1, false)) cpyL0
def cpyY : List (List (Array Bool)) := [[#[true, true, true, true, true, false, true, true, false, false, true, true, false, false, true, true, false, false, true, true, false, true, true, true, true, false, false], #[true, true, false, true, true, false, true, true, false, true, true, true, false, false, true, true, false, false, true, true, false, true, true, true, true, false, false], #[true, true, false, true, true, false, true, true, false, false, true, true, false, true, true, true, false, false, true, true, false, true, true, true, true, false, false], #[true, true, false, true, true, false, true, true, false, false, true, true, false, false, true, true, false, true, true, true, false, true, true, true, true, false, false]],
  [#[true, true, true, true, true, false, true, true, false, true, true, true, false, false, true, true, false, false, true, true, false, true, true, true, true, false, false], #[true, true, true, true, true, false, true, true, false, false, true, true, false, true, true, true, false, false, true, true, false, true, true, true, true, false, false], #[true, true, true, true, true, false, true, true, false, false, true, true, false, false, true, true, false, true, true, true, false, true, true, true, true, false, false], #[true, true, true, true, true, true, true, true, false, false, true, true, false, false, true, true, false, false, true, true, false, true, true, true, true, false, false], #[true, true, false, true, true, false, true, true, false, true, true, true, false, true, true, true, false, false, true, true, false, true, true, true, true, false, false], #[true, true, false, true, true, false, true, true, false, true, true, true, false, false, true, true, false, true, true, true, false, true, true, true, true, false, false], #[true, true, false, true, true, false, true, true, false, false, true, true, false, true, true, true, false, true, true, true, false, true, true, true, true, false, false]],
  [#[true, true, true, true, true, false, true, true, false, true, true, true, false, true, true, true, false, false, true, true, false, true, true, true, true, false, false], #[true, true, true, true, true, false, true, true, false, true, true, true, false, false, true, true, false, true, true, true, false, true, true, true, true, false, false], #[true, true, true, true, true, true, true, true, false, true, true, true, false, false, true, true, false, false, true, true, false, true, true, true, true, false, false], #[true, true, true, true, true, false, true, true, false, false, true, true, false, true, true, true, false, true, true, true, false, true, true, true, true, false, false], #[true, true, true, true, true, true, true, true, false, false, true, true, false, true, true, true, false, false, true, true, false, true, true, true, true, false, false], #[true, true, true, true, true, true, true, true, false, false, true, true, false, false, true, true, false, true, true, true, false, true, true, true, true, false, false], #[true, true, true, true, true, true, true, true, true, false, true, true, false, false, true, true, false, false, true, true, false, true, true, true, true, false, false], #[true, true, false, true, true, false, true, true, false, true, true, true, false, true, true, true, false, true, true, true, false, true, true, true, true, false, false]],
  [#[true, true, true, true, true, false, true, true, false, true, true, true, false, true, true, true, false, true, true, true, false, true, true, true, true, false, false], #[true, true, true, true, true, true, true, true, false, true, true, true, false, true, true, true, false, false, true, true, false, true, true, true, true, false, false], #[true, true, true, true, true, true, true, true, false, true, true, true, false, false, true, true, false, true, true, true, false, true, true, true, true, false, false], #[true, true, true, true, true, true, true, true, true, true, true, true, false, false, true, true, false, false, true, true, false, true, true, true, true, false, false], #[true, true, true, true, true, true, true, true, false, false, true, true, false, true, true, true, false, true, true, true, false, true, true, true, true, false, false], #[true, true, true, true, true, true, true, true, true, false, true, true, false, true, true, true, false, false, true, true, false, true, true, true, true, false, false], #[true, true, true, true, true, true, true, true, true, false, true, true, false, false, true, true, false, true, true, true, false, true, true, true, true, false, false]],
  [#[true, true, true, true, true, true, true, true, false, true, true, true, false, true, true, true, false, true, true, true, false, true, true, true, true, false, false], #[true, true, true, true, true, true, true, true, true, true, true, true, false, true, true, true, false, false, true, true, false, true, true, true, true, false, false], #[true, true, true, true, true, true, true, true, true, true, true, true, false, false, true, true, false, true, true, true, false, true, true, true, true, false, false], #[true, true, true, true, true, true, true, true, true, true, true, true, true, false, true, true, false, false, true, true, false, true, true, true, true, false, false], #[true, true, true, true, true, true, true, true, true, false, true, true, false, true, true, true, false, true, true, true, false, true, true, true, true, false, false]],
  [#[true, true, true, true, true, true, true, true, true, true, true, true, false, true, true, true, false, true, true, true, false, true, true, true, true, false, false], #[true, true, true, true, true, true, true, true, true, true, true, true, true, true, true, true, false, false, true, true, false, true, true, true, true, false, false], #[true, true, true, true, true, true, true, true, true, true, true, true, true, false, true, true, false, true, true, true, false, true, true, true, true, false, false]],
  [#[true, true, true, true, true, true, true, true, true, true, true, true, true, true, true, true, false, true, true, true, false, true, true, true, true, false, false], #[true, true, true, true, true, true, true, true, true, true, true, true, true, true, true, true, true, false, true, true, false, true, true, true, true, false, false]],
  [#[true, true, true, true, true, true, true, true, true, true, true, true, true, true, true, true, true, true, true, true, false, true, true, true, true, false, false]],
  [#[true, true, true, true, true, true, true, true, true, true, true, true, true, true, true, true, true, true, true, true, true, true, true, true, true, false, false]]]
theorem cpyPre : preOK cpyOps cpyR (Array.replicate 27 false) = true := by kernel_rfl
theorem cpyAny : anyOK cpyOps cpyD cpyDep [(25, true), (26, false)] cpyL1 cpyY [cpyL0] = true := by kernel_rfl
end Go.Proofs.YtddebgmjolojeaaDoor

/- The reference's copy of a vector: its parts' copies given. -/
namespace Go.Proofs.YtddebgmjolojeaaDoor
set_option maxRecDepth 100000
open Go.RowKit
set_option linter.unusedVariables false
def cpyC (items : List It) (names cls levels : List ByteArray) : List Ch := [⟨2, 5, 5, 8, 67, 3, items.length, itCells items⟩, ⟨9, 12, 12, 15, 9, 1, names.length, names.map Value.string⟩, ⟨13, 16, 16, 19, 9, 1, cls.length, cls.map Value.string⟩, ⟨17, 20, 20, 23, 9, 1, levels.length, levels.map Value.string⟩]
theorem cpyC_ok (items : List It) (names cls levels : List ByteArray) : ChsOK (cpyC items names cls levels) := by
  refine ⟨fun c hc c' hc' h => ?_, fun c hc c' hc' h => ?_, fun c hc => ?_⟩
  · simp only [cpyC, List.mem_cons, List.not_mem_nil, or_false] at hc hc'
    rcases hc with rfl | rfl | rfl | rfl <;> rcases hc' with rfl | rfl | rfl | rfl <;> first | exact ⟨rfl, rfl⟩ | exact absurd rfl h
  · simp only [cpyC, List.mem_cons, List.not_mem_nil, or_false] at hc hc'
    rcases hc with rfl | rfl | rfl | rfl <;> rcases hc' with rfl | rfl | rfl | rfl <;> first | rfl | (simp at h)
  · simp only [cpyC, List.mem_cons, List.not_mem_nil, or_false] at hc
    rcases hc with rfl | rfl | rfl | rfl <;> exact ⟨by simp, by simp⟩
/-- The copies of the parts, once they are made. -/
def cpyT (base d : Nat) (parts : List Vec) (X : List Nat) (l : Array Bool) (V : Nat → Value) (w : World) : Prop := (l.getD 8 false = false → X = []) ∧ (l.getD 8 false = true → OwnParts w d (V 11) parts X ∧ X.Nodup ∧ ∀ g ∈ X, base ≤ g)
theorem cpyT_keep (base d : Nat) (parts : List Vec) (items : List It) (names cls levels : List ByteArray) : KeepT (cpyC items names cls levels) (cpyT base d parts) := by
  refine ⟨fun X l V w w' i d' v' h ht hk hs => ?_⟩
  obtain ⟨c, hc, h⟩ := h
  have hi : (8 ≠ i ∧ d' ≠ 11) := by
    simp only [cpyC, List.mem_cons, List.not_mem_nil, or_false] at hc
    rcases hc with rfl | rfl | rfl | rfl <;> rcases h with ⟨rfl, rfl⟩ | ⟨rfl, rfl⟩ <;> exact ⟨by simp, by simp⟩
  unfold cpyT at ht ⊢
  rw [getD_set_off hi.1, updI_ne V v' hi.2]
  exact ⟨ht.1, fun h => ⟨(ht.2 h).1.kept hk, (ht.2 h).2⟩⟩
theorem OwnIts.blk {w : World} {a : Option Addr} {l : List It} {F : List Nat} (h : OwnIts w a l F) (n c : Nat) : ∀ b ∈ F, (Value.slice a n c).ownBlock = some b := by
  intro b hb
  rcases h with ⟨_, rfl⟩ | ⟨b', C, rfl, rfl, _⟩
  · cases hb
  · obtain rfl := List.mem_singleton.1 hb; rfl
theorem OwnTxs.blk {w : World} {a : Option Addr} {l : List ByteArray} {F : List Nat} (h : OwnTxs w a l F) (n c : Nat) : ∀ b ∈ F, (Value.slice a n c).ownBlock = some b := by
  intro b hb
  rcases h with ⟨_, rfl⟩ | ⟨b', C, rfl, rfl, _⟩
  · cases hb
  · obtain rfl := List.mem_singleton.1 hb; rfl
theorem txs_of_row {w : World} {B : Nat} {v : Value} {l : List ByteArray} (h : w.ownsRow B 9 1 v l.length (l.map Value.string)) : ∃ a c F, v = .slice a l.length c ∧ OwnTxs w a l F ∧ F.Nodup ∧ (∀ b ∈ F, B ≤ b ∧ b < w.heap.size) ∧ l.length ≤ c := by
  by_cases hpos : 0 < l.length
  · obtain ⟨g, c, rfl, ho, h1, h2, h3⟩ := own_of_row hpos h
    exact ⟨_, c, [g], rfl, ho, by simp, fun b hb => by obtain rfl := List.mem_singleton.1 hb; exact ⟨h1, h2⟩, h3⟩
  · obtain rfl : l = [] := List.eq_nil_of_length_eq_zero (by omega)
    obtain ⟨_, ⟨e, _⟩ | ⟨g, k, _, e, _⟩⟩ := h
    · exact ⟨none, 0, [], e, .inl ⟨rfl, rfl⟩, List.nodup_nil, (fun _ h => by cases h), Nat.le_refl _⟩
    · exact ⟨_, k, [], e, .inl ⟨rfl, rfl⟩, List.nodup_nil, (fun _ h => by cases h), Nat.zero_le _⟩
theorem build_v8 {w : World} {k c e : Int} {a1 a2 a3 a4 a5 : Option Addr} {n1 n2 n3 n4 n5 m1 m2 m3 m4 m5 : Nat} : (Instr.build 31 #[(0, .int .i64 k), (1, .slice a1 n1 m1), (2, .slice a2 n2 m2), (3, .slice a3 n3 m3), (4, .slice a4 n4 m4), (5, .slice a5 n5 m5), (6, .int .i64 c), (7, .int .i64 e)]).run Tryd.prog w = .ok (.agg #[.int .i64 k, .slice a1 n1 m1, .slice a2 n2 m2, .slice a3 n3 m3, .slice a4 n4 m4, .slice a5 n5 m5, .int .i64 c, .int .i64 e]) w := by
  kernel_rfl
theorem look_step {a : Act} {d k : Nat} {v : Value} {e : List (Nat × Value)} (h : Nat.beq d k = false) : lookAt a ((d, v) :: e) k = lookAt a e k := by
  show (match Nat.beq d k with | true => v | false => lookAt a e k) = _
  rw [h]
theorem look_far {a : Act} {d k : Nat} {v : Value} {e : List (Nat × Value)} {D : List (Nat × Nat)} {l : Array Bool} {V : Nat → Value} (h : Nat.beq d k = false) (h2 : D.all (fun p => !Nat.beq p.2 k) = true) : lookO a ((d, v) :: (putsI D l V ++ e)) (.tmp k) = lookAt a e k :=
  (look_step h).trans (look_other h2)
theorem cpyZ0 : ([2, 5, 8, 9, 12, 13, 16, 17, 20].all fun k => !(behind cpyR (Array.replicate cpyOps.size false)).getD k false) = true := by kernel_rfl
theorem cpyZ (k : Nat) (h : k ∈ [2, 5, 8, 9, 12, 13, 16, 17, 20]) : (behind cpyR (Array.replicate cpyOps.size false)).getD k false = false := by
  have := List.all_eq_true.1 cpyZ0 k h
  simpa using this
theorem cpyO0 : ([2, 5, 8, 9, 12, 13, 16, 17, 20].all fun k => (behind (cpyD.map fun p => (p.1, false)) (behind cpyR (Array.replicate cpyOps.size false))).getD k false) = true := by kernel_rfl
theorem cpyO (k : Nat) (h : k ∈ [2, 5, 8, 9, 12, 13, 16, 17, 20]) : (behind (cpyD.map fun p => (p.1, false)) (behind cpyR (Array.replicate cpyOps.size false))).getD k false = true := List.all_eq_true.1 cpyO0 k h
theorem cpyF : (cpyD.filter fun p => (behind (cpyD.map fun p => (p.1, false)) (behind cpyR (Array.replicate cpyOps.size false))).getD p.1 false) = cpyD := by
  refine List.filter_eq_self.2 fun p hp => ?_
  simp only [cpyD, List.mem_cons, List.not_mem_nil, or_false] at hp
  rcases hp with rfl | rfl | rfl | rfl | rfl | rfl | rfl | rfl | rfl <;> exact cpyO _ (by simp)
theorem Ch.full {c : Ch} {l : Array Bool} {V : Nat → Value} (h : l.getD c.i2 false = true) : c.cur l V = V c.d2 ∧ c.num l = c.n ∧ c.row l = c.xs := by
  unfold Ch.cur Ch.num Ch.row
  rw [h]
  exact ⟨rfl, rfl, rfl⟩
theorem Ch.none {c : Ch} {l : Array Bool} {V : Nat → Value} (h : l.getD c.i2 false = false) (h2 : l.getD c.i false = false) : c.cur l V = .slice Option.none 0 0 ∧ c.num l = 0 ∧ c.row l = [] := by
  unfold Ch.cur Ch.num Ch.row
  rw [h, h2]
  exact ⟨rfl, rfl, rfl⟩
theorem cpy_start {items : List It} {names cls levels : List ByteArray} {base d : Nat} {parts : List Vec} {W : World} (hb : base ≤ W.heap.size) : JJ base (cpyC items names cls levels) (cpyT base d parts) (behind cpyR (Array.replicate cpyOps.size false)) (fun _ => undef) W := by
  have st : ∀ c ∈ cpyC items names cls levels, (behind cpyR (Array.replicate cpyOps.size false)).getD c.i2 false = false ∧ (behind cpyR (Array.replicate cpyOps.size false)).getD c.i false = false := by
    intro c hc
    simp only [cpyC, List.mem_cons, List.not_mem_nil, or_false] at hc
    rcases hc with rfl | rfl | rfl | rfl <;> exact ⟨cpyZ _ (by simp), cpyZ _ (by simp)⟩
  refine ⟨[], ⟨fun c hc h => ?_, fun c hc => ?_, fun c hc c' hc' _ g hg => ?_, fun c hc g hg => ?_⟩, (fun _ h => by cases h), hb, ⟨fun _ => rfl, fun h => ?_⟩⟩
  · rw [(st c hc).1] at h; cases h
  · obtain ⟨e1, e2, e3⟩ := Ch.none (V := fun _ => undef) (st c hc).1 (st c hc).2
    rw [e1, e2, e3]
    exact ⟨by simp, .inl ⟨rfl, rfl⟩⟩
  · rw [(Ch.none (V := fun _ => undef) (st c hc).1 (st c hc).2).1] at hg; cases hg
  · rw [(Ch.none (V := fun _ => undef) (st c hc).1 (st c hc).2).1] at hg; cases hg
  · rw [cpyZ 8 (by simp)] at h; cases h
/-- All parts, however deep, are vectors. -/
def AllIs : Nat → Vec → Prop
  | 0, _ => True
  | d + 1, v => ∀ i, i < (partsV v).length → IsV 3 ((partsV v).getD i noV) ∧ AllIs d ((partsV v).getD i noV)
structure SCV (d : Nat) : Prop where
  out : ∀ (v : Vec) (val : Value) (lo hi : Nat) (w : World), VecAt lo hi w d v val → hi ≤ w.heap.size → Small d v → AllIs d v → (partsV v).length ≤ 41 → Calls Tryd.prog 62 #[val] w (ResV d v w)
structure SCP (d : Nat) : Prop where
  out : ∀ (parts : List Vec) (a : Option Addr) (c lo hi : Nat) (w : World), VecsAt lo hi w d a parts → hi ≤ w.heap.size → (∀ i, i < parts.length → Small d (parts.getD i noV)) → (∀ i, i < parts.length → IsV 3 (parts.getD i noV) ∧ AllIs d (parts.getD i noV)) → parts.length ≤ 41 → Calls Tryd.prog 61 #[.slice a parts.length c] w (ResP d parts w)
set_option maxHeartbeats 4000000 in
theorem scvStep (d : Nat) (IS : SCP d) : SCV (d + 1) := by
  refine ⟨fun v val lo hi w hv hhi hsm hall hlen => ?_⟩
  obtain ⟨kk, items, parts, names, cls, levels, code, env⟩ := v
  obtain ⟨d', ai, ci, ap, cp, an, cn, ac, cc, al, cl, ed, rfl, hI, hN, hC, hL, hP⟩ := vecAt_open hv
  obtain rfl : d = d' := by omega
  have hsp : ∀ i, i < parts.length → Small d (parts.getD i noV) := fun i hi => hsm.part hi
  obtain ⟨li, lp, ln, lc, ll, _⟩ := hsm
  have NI := Lib.hid (fun (W : World) (hb : Below w.heap.size w W) (hp : 0 < items.length) => show ∃ ad : Addr, ai = some ad ∧ ∀ j u, (itCells items)[j]? = some u → W.cell? (ad.add j) = some u from by
    have h := hI.below hb hhi
    obtain ⟨b, off, rfl⟩ := items_some h hp
    exact ⟨_, rfl, itCells_in h⟩)
  have NN := Lib.hid (fun (W : World) (hb : Below w.heap.size w W) (hp : 0 < names.length) => show ∃ ad : Addr, an = some ad ∧ ∀ j u, (names.map Value.string)[j]? = some u → W.cell? (ad.add j) = some u from by
    have h := hN.below hb hhi
    obtain ⟨b, off, rfl⟩ := texts_some h hp
    exact ⟨_, rfl, news_cells h⟩)
  have NC := Lib.hid (fun (W : World) (hb : Below w.heap.size w W) (hp : 0 < cls.length) => show ∃ ad : Addr, ac = some ad ∧ ∀ j u, (cls.map Value.string)[j]? = some u → W.cell? (ad.add j) = some u from by
    have h := hC.below hb hhi
    obtain ⟨b, off, rfl⟩ := texts_some h hp
    exact ⟨_, rfl, news_cells h⟩)
  have NL := Lib.hid (fun (W : World) (hb : Below w.heap.size w W) (hp : 0 < levels.length) => show ∃ ad : Addr, al = some ad ∧ ∀ j u, (levels.map Value.string)[j]? = some u → W.cell? (ad.add j) = some u from by
    have h := hL.below hb hhi
    obtain ⟨b, off, rfl⟩ := texts_some h hp
    exact ⟨_, rfl, news_cells h⟩)
  have CP := Lib.hid (fun (w1 : World) (hb : Below w.heap.size w w1) => IS.out parts ap cp lo hi w1 (hP.below hb hhi) (Nat.le_trans hhi hb.size) hsp hall hlen)
  clear hv hI hN hC hL hP hsp hall IS
  go_enter Tryd.func62, Tryd.ntmps62
  obtain ⟨w1, hw1⟩ : ∃ W, (w.alloc (.cells #[.int .i64 kk, .slice ai items.length ci, .slice ap parts.length cp, .slice an names.length cn, .slice ac cls.length cc, .slice al levels.length cl, .int .i64 code, .int .i64 env] 31)).alloc (.cells #[.int .i64 0, .slice none 0 0, .slice none 0 0, .slice none 0 0, .slice none 0 0, .slice none 0 0, .int .i64 0, .int .i64 0] 31) = W := ⟨_, rfl⟩
  have hsz : (w.alloc (.cells #[.int .i64 kk, .slice ai items.length ci, .slice ap parts.length cp, .slice an names.length cn, .slice ac cls.length cc, .slice al levels.length cl, .int .i64 code, .int .i64 env] 31)).heap.size = w.heap.size + 1 := by simp
  have H := Lib.hid (show HeldC w w1 [(w.heap.size, 31, #[.int .i64 kk, .slice ai items.length ci, .slice ap parts.length cp, .slice an names.length cn, .slice ac cls.length cc, .slice al levels.length cl, .int .i64 code, .int .i64 env]), (w.heap.size + 1, 31, #[.int .i64 0, .slice none 0 0, .slice none 0 0, .slice none 0 0, .slice none 0 0, .slice none 0 0, .int .i64 0, .int .i64 0])] from heldC_two (hw1 ▸ (below1 w _).alloc (by simp) _) (hw1 ▸ blk_old (blk_new w _ rfl)) (hw1 ▸ hsz ▸ blk_new (w.alloc (.cells #[.int .i64 kk, .slice ai items.length ci, .slice ap parts.length cp, .slice an names.length cn, .slice ac cls.length cc, .slice al levels.length cl, .int .i64 code, .int .i64 env] 31)) (.cells #[.int .i64 0, .slice none 0 0, .slice none 0 0, .slice none 0 0, .slice none 0 0, .slice none 0 0, .int .i64 0, .int .i64 0] 31) rfl))
  have hb1 : w.heap.size + 1 < w1.heap.size := (Array.getElem?_eq_some_iff.1 (heldC_at H.out (List.Mem.tail _ (List.Mem.head _)))).1
  have EW := Lib.hid hw1
  clear hw1
  obtain ⟨i0, hi0, hz0, hz1, hz2⟩ := info_parts infoItm3
  obtain ⟨s0, hs0, hy0, hy1, hy2⟩ := info_parts infoStr
  have GR := Lib.hid (fun (w' w'' : World) (row : Option Nat) (hb : w1.heap.size ≤ w'.heap.size) (hs : HeldC w w' [(w.heap.size, 31, #[.int .i64 kk, .slice ai items.length ci, .slice ap parts.length cp, .slice an names.length cn, .slice ac cls.length cc, .slice al levels.length cl, .int .i64 code, .int .i64 env]), (w.heap.size + 1, 31, #[.int .i64 0, .slice none 0 0, .slice none 0 0, .slice none 0 0, .slice none 0 0, .slice none 0 0, .int .i64 0, .int .i64 0])]) (hrow : ∀ k, row = some k → w1.heap.size ≤ k) (hg : w'.grownBy w'' row) => show HeldC w w'' [(w.heap.size, 31, #[.int .i64 kk, .slice ai items.length ci, .slice ap parts.length cp, .slice an names.length cn, .slice ac cls.length cc, .slice al levels.length cl, .int .i64 code, .int .i64 env]), (w.heap.size + 1, 31, #[.int .i64 0, .slice none 0 0, .slice none 0 0, .slice none 0 0, .slice none 0 0, .slice none 0 0, .int .i64 0, .int .i64 0])] from heldC_grown hs hg (fun k hk => ⟨by have := hrow k hk; omega, fun q hq => by
    have := hrow k hk
    rcases List.mem_cons.1 hq with rfl | hq
    · simp only; omega
    · obtain rfl := List.mem_singleton.1 hq
      simp only; omega⟩))
  go_upto_region 1 with (fail)
  rw [EW.out]
  refine run_regionI (ops := cpyOps) (S := fun w' => HeldC w w' [(w.heap.size, 31, #[.int .i64 kk, .slice ai items.length ci, .slice ap parts.length cp, .slice an names.length cn, .slice ac cls.length cc, .slice al levels.length cl, .int .i64 code, .int .i64 env]), (w.heap.size + 1, 31, #[.int .i64 0, .slice none 0 0, .slice none 0 0, .slice none 0 0, .slice none 0 0, .slice none 0 0, .int .i64 0, .int .i64 0])]) cpyR [(25, true), (26, false)] cpyD cpyDep (JJ w1.heap.size (cpyC items names cls levels) (cpyT w1.heap.size d parts)) [(27, .int .i64 env), (26, .pointer (some ⟨w.heap.size, 7, none⟩)), (25, .int .i64 code), (24, .pointer (some ⟨w.heap.size, 6, none⟩)), (22, .slice al levels.length cl), (21, .pointer (some ⟨w.heap.size, 5, none⟩)), (18, .slice ac cls.length cc), (17, .pointer (some ⟨w.heap.size, 4, none⟩)), (14, .slice an names.length cn), (13, .pointer (some ⟨w.heap.size, 3, none⟩)), (10, .slice ap parts.length cp), (9, .pointer (some ⟨w.heap.size, 2, none⟩)), (7, .slice ai items.length ci), (6, .pointer (some ⟨w.heap.size, 1, none⟩)), (4, .int .i64 kk), (3, .pointer (some ⟨w.heap.size, 0, none⟩))] (fun _ => undef) cpyY (by kernel_rfl) (by kernel_rfl) (by kernel_rfl) (by kernel_rfl) cpyPre cpyAny ⟨by decide, by decide⟩ (by kernel_rfl) (by kernel_rfl) (by kernel_rfl) (fun _ _ _ _ _ h => h) (heldC_drew H.out) (fun Q' h => ?_) ?_ (fun p hp => ?_) (fun V W hJ hS => ?_)
  · refine runC_partV (b := w.heap.size) (by kernel_rfl) (show opAt cpyOps 0 = some (some 3, .fieldAddr 31 (.tmp 1) 0, none) from by kernel_rfl) (by kernel_rfl) (by kernel_rfl) (by kernel_rfl) ?_
    refine runC_cell (b := w.heap.size) (j := 0) (v := .int .i64 kk) load_int (show opAt cpyOps 1 = some (some 4, .load 3 (.tmp 3), none) from by kernel_rfl) (by kernel_rfl) (by kernel_rfl) (by kernel_rfl) (List.Mem.head _) rfl ?_
    refine runC_partV (b := w.heap.size) (by kernel_rfl) (show opAt cpyOps 3 = some (some 6, .fieldAddr 31 (.tmp 1) 1, none) from by kernel_rfl) (by kernel_rfl) (by kernel_rfl) (by kernel_rfl) ?_
    refine runC_cell (b := w.heap.size) (j := 1) (v := .slice ai items.length ci) load_its (show opAt cpyOps 4 = some (some 7, .load 28 (.tmp 6), none) from by kernel_rfl) (by kernel_rfl) (by kernel_rfl) (by kernel_rfl) (List.Mem.head _) rfl ?_
    refine runC_partV (b := w.heap.size) (by kernel_rfl) (show opAt cpyOps 6 = some (some 9, .fieldAddr 31 (.tmp 1) 2, none) from by kernel_rfl) (by kernel_rfl) (by kernel_rfl) (by kernel_rfl) ?_
    refine runC_cell (b := w.heap.size) (j := 2) (v := .slice ap parts.length cp) load_vecs (show opAt cpyOps 7 = some (some 10, .load 29 (.tmp 9), none) from by kernel_rfl) (by kernel_rfl) (by kernel_rfl) (by kernel_rfl) (List.Mem.head _) rfl ?_
    refine runC_partV (b := w.heap.size) (by kernel_rfl) (show opAt cpyOps 10 = some (some 13, .fieldAddr 31 (.tmp 1) 3, none) from by kernel_rfl) (by kernel_rfl) (by kernel_rfl) (by kernel_rfl) ?_
    refine runC_cell (b := w.heap.size) (j := 3) (v := .slice an names.length cn) load_strs (show opAt cpyOps 11 = some (some 14, .load 24 (.tmp 13), none) from by kernel_rfl) (by kernel_rfl) (by kernel_rfl) (by kernel_rfl) (List.Mem.head _) rfl ?_
    refine runC_partV (b := w.heap.size) (by kernel_rfl) (show opAt cpyOps 14 = some (some 17, .fieldAddr 31 (.tmp 1) 4, none) from by kernel_rfl) (by kernel_rfl) (by kernel_rfl) (by kernel_rfl) ?_
    refine runC_cell (b := w.heap.size) (j := 4) (v := .slice ac cls.length cc) load_strs (show opAt cpyOps 15 = some (some 18, .load 24 (.tmp 17), none) from by kernel_rfl) (by kernel_rfl) (by kernel_rfl) (by kernel_rfl) (List.Mem.head _) rfl ?_
    refine runC_partV (b := w.heap.size) (by kernel_rfl) (show opAt cpyOps 18 = some (some 21, .fieldAddr 31 (.tmp 1) 5, none) from by kernel_rfl) (by kernel_rfl) (by kernel_rfl) (by kernel_rfl) ?_
    refine runC_cell (b := w.heap.size) (j := 5) (v := .slice al levels.length cl) load_strs (show opAt cpyOps 19 = some (some 22, .load 24 (.tmp 21), none) from by kernel_rfl) (by kernel_rfl) (by kernel_rfl) (by kernel_rfl) (List.Mem.head _) rfl ?_
    refine runC_partV (b := w.heap.size) (by kernel_rfl) (show opAt cpyOps 21 = some (some 24, .fieldAddr 31 (.tmp 1) 6, none) from by kernel_rfl) (by kernel_rfl) (by kernel_rfl) (by kernel_rfl) ?_
    refine runC_cell (b := w.heap.size) (j := 6) (v := .int .i64 code) load_int (show opAt cpyOps 22 = some (some 25, .load 3 (.tmp 24), none) from by kernel_rfl) (by kernel_rfl) (by kernel_rfl) (by kernel_rfl) (List.Mem.head _) rfl ?_
    refine runC_partV (b := w.heap.size) (by kernel_rfl) (show opAt cpyOps 23 = some (some 26, .fieldAddr 31 (.tmp 1) 7, none) from by kernel_rfl) (by kernel_rfl) (by kernel_rfl) (by kernel_rfl) ?_
    refine runC_cell (b := w.heap.size) (j := 7) (v := .int .i64 env) load_int (show opAt cpyOps 24 = some (some 27, .load 3 (.tmp 26), none) from by kernel_rfl) (by kernel_rfl) (by kernel_rfl) (by kernel_rfl) (List.Mem.head _) rfl ?_
    exact h
  · exact cpy_start (Nat.le_refl _)
  · simp only [cpyD, List.mem_cons, List.not_mem_nil, or_false] at hp
    rcases hp with rfl | rfl | rfl | rfl | rfl | rfl | rfl | rfl | rfl
    · exact stepMake (c := ⟨2, 5, 5, 8, 67, 3, items.length, itCells items⟩) (cpyC_ok items names cls levels) (List.Mem.head _) (cpyT_keep _ _ _ _ _ _ _) (show opAt cpyOps 2 = some (some 5, .buildSlice 28 0 #[], none) from by kernel_rfl) (by kernel_rfl) Tryd.underlying28 hi0 (fun _ _ h => heldC_alloc h _)
    · exact stepFill (c := ⟨2, 5, 5, 8, 67, 3, items.length, itCells items⟩) (y := 7) (by decide) (by simp [cpyD]) (by kernel_rfl) (by simp [cpyDep]) (cpyC_ok items names cls levels) (List.Mem.head _) (cpyT_keep _ _ _ _ _ _ _) (show opAt cpyOps 5 = some (some 8, .call { callee := .builtin .append, args := [.tmp 5, .tmp 7].toArray, argTypes := [28, 28].toArray }, none) from by kernel_rfl) (by kernel_rfl) Tryd.underlying28 hi0 hz0 hz1 hz2 rfl (by simp) ai ci rfl (itCells_len _) (fun W hS hp => NI.out W hS.1 hp) (itCells_one items) (show items.length ≤ maxLen by unfold maxLen; omega) (by simp only; omega) (fun w' w'' row hb hs hrow hg => GR.out w' w'' row hb hs hrow hg)
    · intro l V W hJ hS _ hun _ Q' h
      obtain ⟨X, hj, hX, hb, ht⟩ := hJ
      refine run_call (args := [.slice ap parts.length cp]) (show opAt cpyOps 8 = some (some 11, .call { callee := .value (.func 61), args := [.tmp 10].toArray, argTypes := [29].toArray }, none) from by kernel_rfl) (by kernel_rfl) rfl (by kernel_rfl) (by
        show [lookAt _ (putsI cpyD l V ++ _) 10] = _
        rw [look_other (by kernel_rfl)]
        rfl) ?_
      refine (CP.out W hS.1).mono ?_
      rintro en w2 ⟨v, F, rfl, hp, hn, hr, hbel, _⟩
      refine ⟨_, rfl, heldC_call hS hbel, h _ _ (heldC_call hS hbel) ⟨F, hj.other (fun c hc => ?_) (fun g hg => hbel.block g hg) (fun g hg => (hr g hg).1), fun g hg => (hr g hg).2, Nat.le_trans hb hbel.size, fun h0 => ?_, fun _ => ⟨?_, hn, fun g hg => Nat.le_trans hb (hr g hg).1⟩⟩⟩
      · simp only [cpyC, List.mem_cons, List.not_mem_nil, or_false] at hc
        rcases hc with rfl | rfl | rfl | rfl <;> rfl
      · rw [getD_set_on ‹_›] at h0; cases h0
      · rw [updI_same]; exact hp
    · exact stepMake (c := ⟨9, 12, 12, 15, 9, 1, names.length, names.map Value.string⟩) (cpyC_ok items names cls levels) (List.Mem.tail _ (List.Mem.head _)) (cpyT_keep _ _ _ _ _ _ _) (show opAt cpyOps 9 = some (some 12, .buildSlice 24 0 #[], none) from by kernel_rfl) (by kernel_rfl) Tryd.underlying24 hs0 (fun _ _ h => heldC_alloc h _)
    · exact stepFill (c := ⟨9, 12, 12, 15, 9, 1, names.length, names.map Value.string⟩) (y := 14) (by decide) (by simp [cpyD]) (by kernel_rfl) (by simp [cpyDep]) (cpyC_ok items names cls levels) (List.Mem.tail _ (List.Mem.head _)) (cpyT_keep _ _ _ _ _ _ _) (show opAt cpyOps 12 = some (some 15, .call { callee := .builtin .append, args := [.tmp 12, .tmp 14].toArray, argTypes := [24, 24].toArray }, none) from by kernel_rfl) (by kernel_rfl) Tryd.underlying24 hs0 hy0 hy1 hy2 rfl (by simp) an cn rfl (by simp) (fun W hS hp => NN.out W hS.1 hp) (fun u hu => by obtain ⟨s, _, rfl⟩ := List.mem_map.1 hu; rfl) (show names.length ≤ maxLen by unfold maxLen; omega) (by simp only; omega) (fun w' w'' row hb hs hrow hg => GR.out w' w'' row hb hs hrow hg)
    · exact stepMake (c := ⟨13, 16, 16, 19, 9, 1, cls.length, cls.map Value.string⟩) (cpyC_ok items names cls levels) (List.Mem.tail _ (List.Mem.tail _ (List.Mem.head _))) (cpyT_keep _ _ _ _ _ _ _) (show opAt cpyOps 13 = some (some 16, .buildSlice 24 0 #[], none) from by kernel_rfl) (by kernel_rfl) Tryd.underlying24 hs0 (fun _ _ h => heldC_alloc h _)
    · exact stepFill (c := ⟨13, 16, 16, 19, 9, 1, cls.length, cls.map Value.string⟩) (y := 18) (by decide) (by simp [cpyD]) (by kernel_rfl) (by simp [cpyDep]) (cpyC_ok items names cls levels) (List.Mem.tail _ (List.Mem.tail _ (List.Mem.head _))) (cpyT_keep _ _ _ _ _ _ _) (show opAt cpyOps 16 = some (some 19, .call { callee := .builtin .append, args := [.tmp 16, .tmp 18].toArray, argTypes := [24, 24].toArray }, none) from by kernel_rfl) (by kernel_rfl) Tryd.underlying24 hs0 hy0 hy1 hy2 rfl (by simp) ac cc rfl (by simp) (fun W hS hp => NC.out W hS.1 hp) (fun u hu => by obtain ⟨s, _, rfl⟩ := List.mem_map.1 hu; rfl) (show cls.length ≤ maxLen by unfold maxLen; omega) (by simp only; omega) (fun w' w'' row hb hs hrow hg => GR.out w' w'' row hb hs hrow hg)
    · exact stepMake (c := ⟨17, 20, 20, 23, 9, 1, levels.length, levels.map Value.string⟩) (cpyC_ok items names cls levels) (List.Mem.tail _ (List.Mem.tail _ (List.Mem.tail _ (List.Mem.head _)))) (cpyT_keep _ _ _ _ _ _ _) (show opAt cpyOps 17 = some (some 20, .buildSlice 24 0 #[], none) from by kernel_rfl) (by kernel_rfl) Tryd.underlying24 hs0 (fun _ _ h => heldC_alloc h _)
    · exact stepFill (c := ⟨17, 20, 20, 23, 9, 1, levels.length, levels.map Value.string⟩) (y := 22) (by decide) (by simp [cpyD]) (by kernel_rfl) (by simp [cpyDep]) (cpyC_ok items names cls levels) (List.Mem.tail _ (List.Mem.tail _ (List.Mem.tail _ (List.Mem.head _)))) (cpyT_keep _ _ _ _ _ _ _) (show opAt cpyOps 20 = some (some 23, .call { callee := .builtin .append, args := [.tmp 20, .tmp 22].toArray, argTypes := [24, 24].toArray }, none) from by kernel_rfl) (by kernel_rfl) Tryd.underlying24 hs0 hy0 hy1 hy2 rfl (by simp) al cl rfl (by simp) (fun W hS hp => NL.out W hS.1 hp) (fun u hu => by obtain ⟨s, _, rfl⟩ := List.mem_map.1 hu; rfl) (show levels.length ≤ maxLen by unfold maxLen; omega) (by simp only; omega) (fun w' w'' row hb hs hrow hg => GR.out w' w'' row hb hs hrow hg)
  · obtain ⟨X, hj, hX, hb, ht⟩ := hJ
    have o1 := hj.own ⟨2, 5, 5, 8, 67, 3, items.length, itCells items⟩ (List.Mem.head _)
    obtain ⟨e1, e2, e3⟩ := Ch.full (c := ⟨2, 5, 5, 8, 67, 3, items.length, itCells items⟩) (V := V) (cpyO 5 (by simp))
    rw [e1, e2, e3] at o1
    clear e1 e2 e3
    obtain ⟨a1, k1, F1, v1, p1, n1, r1, c1⟩ := own_of_its o1
    have o2 := hj.own ⟨9, 12, 12, 15, 9, 1, names.length, names.map Value.string⟩ (List.Mem.tail _ (List.Mem.head _))
    obtain ⟨e1, e2, e3⟩ := Ch.full (c := ⟨9, 12, 12, 15, 9, 1, names.length, names.map Value.string⟩) (V := V) (cpyO 12 (by simp))
    rw [e1, e2, e3] at o2
    clear e1 e2 e3
    obtain ⟨a2, k2, F2, v2, p2, n2, r2, c2⟩ := txs_of_row o2
    have o3 := hj.own ⟨13, 16, 16, 19, 9, 1, cls.length, cls.map Value.string⟩ (List.Mem.tail _ (List.Mem.tail _ (List.Mem.head _)))
    obtain ⟨e1, e2, e3⟩ := Ch.full (c := ⟨13, 16, 16, 19, 9, 1, cls.length, cls.map Value.string⟩) (V := V) (cpyO 16 (by simp))
    rw [e1, e2, e3] at o3
    clear e1 e2 e3
    obtain ⟨a3, k3, F3, v3, p3, n3, r3, c3⟩ := txs_of_row o3
    have o4 := hj.own ⟨17, 20, 20, 23, 9, 1, levels.length, levels.map Value.string⟩ (List.Mem.tail _ (List.Mem.tail _ (List.Mem.tail _ (List.Mem.head _))))
    obtain ⟨e1, e2, e3⟩ := Ch.full (c := ⟨17, 20, 20, 23, 9, 1, levels.length, levels.map Value.string⟩) (V := V) (cpyO 20 (by simp))
    rw [e1, e2, e3] at o4
    clear e1 e2 e3
    obtain ⟨a4, k4, F4, v4, p4, n4, r4, c4⟩ := txs_of_row o4
    obtain ⟨hop, hnp, hbp⟩ := ht.2 (cpyO 8 (by simp))
    obtain ⟨ap', kp, vp, cp', pp⟩ := hop
    have d12 : ∀ b ∈ F1, b ∉ F2 := fun b h1 h2 => hj.two ⟨2, 5, 5, 8, 67, 3, items.length, itCells items⟩ (List.Mem.head _) ⟨9, 12, 12, 15, 9, 1, names.length, names.map Value.string⟩ (List.Mem.tail _ (List.Mem.head _)) (by simp) b (by rw [(Ch.full (c := ⟨2, 5, 5, 8, 67, 3, items.length, itCells items⟩) (V := V) (cpyO 5 (by simp))).1]; show (V 8).ownBlock = _; rw [v1]; exact p1.blk _ _ b h1) (by rw [(Ch.full (c := ⟨9, 12, 12, 15, 9, 1, names.length, names.map Value.string⟩) (V := V) (cpyO 12 (by simp))).1]; show (V 15).ownBlock = _; rw [v2]; exact p2.blk _ _ b h2)
    have d13 : ∀ b ∈ F1, b ∉ F3 := fun b h1 h2 => hj.two ⟨2, 5, 5, 8, 67, 3, items.length, itCells items⟩ (List.Mem.head _) ⟨13, 16, 16, 19, 9, 1, cls.length, cls.map Value.string⟩ (List.Mem.tail _ (List.Mem.tail _ (List.Mem.head _))) (by simp) b (by rw [(Ch.full (c := ⟨2, 5, 5, 8, 67, 3, items.length, itCells items⟩) (V := V) (cpyO 5 (by simp))).1]; show (V 8).ownBlock = _; rw [v1]; exact p1.blk _ _ b h1) (by rw [(Ch.full (c := ⟨13, 16, 16, 19, 9, 1, cls.length, cls.map Value.string⟩) (V := V) (cpyO 16 (by simp))).1]; show (V 19).ownBlock = _; rw [v3]; exact p3.blk _ _ b h2)
    have d14 : ∀ b ∈ F1, b ∉ F4 := fun b h1 h2 => hj.two ⟨2, 5, 5, 8, 67, 3, items.length, itCells items⟩ (List.Mem.head _) ⟨17, 20, 20, 23, 9, 1, levels.length, levels.map Value.string⟩ (List.Mem.tail _ (List.Mem.tail _ (List.Mem.tail _ (List.Mem.head _)))) (by simp) b (by rw [(Ch.full (c := ⟨2, 5, 5, 8, 67, 3, items.length, itCells items⟩) (V := V) (cpyO 5 (by simp))).1]; show (V 8).ownBlock = _; rw [v1]; exact p1.blk _ _ b h1) (by rw [(Ch.full (c := ⟨17, 20, 20, 23, 9, 1, levels.length, levels.map Value.string⟩) (V := V) (cpyO 20 (by simp))).1]; show (V 23).ownBlock = _; rw [v4]; exact p4.blk _ _ b h2)
    have x1 : ∀ b ∈ F1, b ∉ X := fun b h1 => hj.out ⟨2, 5, 5, 8, 67, 3, items.length, itCells items⟩ (List.Mem.head _) b (by rw [(Ch.full (c := ⟨2, 5, 5, 8, 67, 3, items.length, itCells items⟩) (V := V) (cpyO 5 (by simp))).1]; show (V 8).ownBlock = _; rw [v1]; exact p1.blk _ _ b h1)
    have d23 : ∀ b ∈ F2, b ∉ F3 := fun b h1 h2 => hj.two ⟨9, 12, 12, 15, 9, 1, names.length, names.map Value.string⟩ (List.Mem.tail _ (List.Mem.head _)) ⟨13, 16, 16, 19, 9, 1, cls.length, cls.map Value.string⟩ (List.Mem.tail _ (List.Mem.tail _ (List.Mem.head _))) (by simp) b (by rw [(Ch.full (c := ⟨9, 12, 12, 15, 9, 1, names.length, names.map Value.string⟩) (V := V) (cpyO 12 (by simp))).1]; show (V 15).ownBlock = _; rw [v2]; exact p2.blk _ _ b h1) (by rw [(Ch.full (c := ⟨13, 16, 16, 19, 9, 1, cls.length, cls.map Value.string⟩) (V := V) (cpyO 16 (by simp))).1]; show (V 19).ownBlock = _; rw [v3]; exact p3.blk _ _ b h2)
    have d24 : ∀ b ∈ F2, b ∉ F4 := fun b h1 h2 => hj.two ⟨9, 12, 12, 15, 9, 1, names.length, names.map Value.string⟩ (List.Mem.tail _ (List.Mem.head _)) ⟨17, 20, 20, 23, 9, 1, levels.length, levels.map Value.string⟩ (List.Mem.tail _ (List.Mem.tail _ (List.Mem.tail _ (List.Mem.head _)))) (by simp) b (by rw [(Ch.full (c := ⟨9, 12, 12, 15, 9, 1, names.length, names.map Value.string⟩) (V := V) (cpyO 12 (by simp))).1]; show (V 15).ownBlock = _; rw [v2]; exact p2.blk _ _ b h1) (by rw [(Ch.full (c := ⟨17, 20, 20, 23, 9, 1, levels.length, levels.map Value.string⟩) (V := V) (cpyO 20 (by simp))).1]; show (V 23).ownBlock = _; rw [v4]; exact p4.blk _ _ b h2)
    have x2 : ∀ b ∈ F2, b ∉ X := fun b h1 => hj.out ⟨9, 12, 12, 15, 9, 1, names.length, names.map Value.string⟩ (List.Mem.tail _ (List.Mem.head _)) b (by rw [(Ch.full (c := ⟨9, 12, 12, 15, 9, 1, names.length, names.map Value.string⟩) (V := V) (cpyO 12 (by simp))).1]; show (V 15).ownBlock = _; rw [v2]; exact p2.blk _ _ b h1)
    have d34 : ∀ b ∈ F3, b ∉ F4 := fun b h1 h2 => hj.two ⟨13, 16, 16, 19, 9, 1, cls.length, cls.map Value.string⟩ (List.Mem.tail _ (List.Mem.tail _ (List.Mem.head _))) ⟨17, 20, 20, 23, 9, 1, levels.length, levels.map Value.string⟩ (List.Mem.tail _ (List.Mem.tail _ (List.Mem.tail _ (List.Mem.head _)))) (by simp) b (by rw [(Ch.full (c := ⟨13, 16, 16, 19, 9, 1, cls.length, cls.map Value.string⟩) (V := V) (cpyO 16 (by simp))).1]; show (V 19).ownBlock = _; rw [v3]; exact p3.blk _ _ b h1) (by rw [(Ch.full (c := ⟨17, 20, 20, 23, 9, 1, levels.length, levels.map Value.string⟩) (V := V) (cpyO 20 (by simp))).1]; show (V 23).ownBlock = _; rw [v4]; exact p4.blk _ _ b h2)
    have x3 : ∀ b ∈ F3, b ∉ X := fun b h1 => hj.out ⟨13, 16, 16, 19, 9, 1, cls.length, cls.map Value.string⟩ (List.Mem.tail _ (List.Mem.tail _ (List.Mem.head _))) b (by rw [(Ch.full (c := ⟨13, 16, 16, 19, 9, 1, cls.length, cls.map Value.string⟩) (V := V) (cpyO 16 (by simp))).1]; show (V 19).ownBlock = _; rw [v3]; exact p3.blk _ _ b h1)
    have x4 : ∀ b ∈ F4, b ∉ X := fun b h1 => hj.out ⟨17, 20, 20, 23, 9, 1, levels.length, levels.map Value.string⟩ (List.Mem.tail _ (List.Mem.tail _ (List.Mem.tail _ (List.Mem.head _)))) b (by rw [(Ch.full (c := ⟨17, 20, 20, 23, 9, 1, levels.length, levels.map Value.string⟩) (V := V) (cpyO 20 (by simp))).1]; show (V 23).ownBlock = _; rw [v4]; exact p4.blk _ _ b h1)
    have y4 : ∀ a : Act, lookO a (putsI cpyD (behind (cpyD.map fun p => (p.1, false)) (behind cpyR (Array.replicate cpyOps.size false))) V ++ [(27, .int .i64 env), (26, .pointer (some ⟨w.heap.size, 7, none⟩)), (25, .int .i64 code), (24, .pointer (some ⟨w.heap.size, 6, none⟩)), (22, .slice al levels.length cl), (21, .pointer (some ⟨w.heap.size, 5, none⟩)), (18, .slice ac cls.length cc), (17, .pointer (some ⟨w.heap.size, 4, none⟩)), (14, .slice an names.length cn), (13, .pointer (some ⟨w.heap.size, 3, none⟩)), (10, .slice ap parts.length cp), (9, .pointer (some ⟨w.heap.size, 2, none⟩)), (7, .slice ai items.length ci), (6, .pointer (some ⟨w.heap.size, 1, none⟩)), (4, .int .i64 kk), (3, .pointer (some ⟨w.heap.size, 0, none⟩))]) (.tmp 4) = .int .i64 kk := fun a => (look_other (by kernel_rfl)).trans rfl
    have y8 : ∀ a : Act, lookO a (putsI cpyD (behind (cpyD.map fun p => (p.1, false)) (behind cpyR (Array.replicate cpyOps.size false))) V ++ [(27, .int .i64 env), (26, .pointer (some ⟨w.heap.size, 7, none⟩)), (25, .int .i64 code), (24, .pointer (some ⟨w.heap.size, 6, none⟩)), (22, .slice al levels.length cl), (21, .pointer (some ⟨w.heap.size, 5, none⟩)), (18, .slice ac cls.length cc), (17, .pointer (some ⟨w.heap.size, 4, none⟩)), (14, .slice an names.length cn), (13, .pointer (some ⟨w.heap.size, 3, none⟩)), (10, .slice ap parts.length cp), (9, .pointer (some ⟨w.heap.size, 2, none⟩)), (7, .slice ai items.length ci), (6, .pointer (some ⟨w.heap.size, 1, none⟩)), (4, .int .i64 kk), (3, .pointer (some ⟨w.heap.size, 0, none⟩))]) (.tmp 8) = .slice a1 items.length k1 := fun a => (look_done (i := 5) (by decide) (by simp [cpyD]) (cpyO 5 (by simp))).trans v1
    have y11 : ∀ a : Act, lookO a (putsI cpyD (behind (cpyD.map fun p => (p.1, false)) (behind cpyR (Array.replicate cpyOps.size false))) V ++ [(27, .int .i64 env), (26, .pointer (some ⟨w.heap.size, 7, none⟩)), (25, .int .i64 code), (24, .pointer (some ⟨w.heap.size, 6, none⟩)), (22, .slice al levels.length cl), (21, .pointer (some ⟨w.heap.size, 5, none⟩)), (18, .slice ac cls.length cc), (17, .pointer (some ⟨w.heap.size, 4, none⟩)), (14, .slice an names.length cn), (13, .pointer (some ⟨w.heap.size, 3, none⟩)), (10, .slice ap parts.length cp), (9, .pointer (some ⟨w.heap.size, 2, none⟩)), (7, .slice ai items.length ci), (6, .pointer (some ⟨w.heap.size, 1, none⟩)), (4, .int .i64 kk), (3, .pointer (some ⟨w.heap.size, 0, none⟩))]) (.tmp 11) = .slice ap' parts.length kp := fun a => (look_done (i := 8) (by decide) (by simp [cpyD]) (cpyO 8 (by simp))).trans vp
    have y15 : ∀ a : Act, lookO a (putsI cpyD (behind (cpyD.map fun p => (p.1, false)) (behind cpyR (Array.replicate cpyOps.size false))) V ++ [(27, .int .i64 env), (26, .pointer (some ⟨w.heap.size, 7, none⟩)), (25, .int .i64 code), (24, .pointer (some ⟨w.heap.size, 6, none⟩)), (22, .slice al levels.length cl), (21, .pointer (some ⟨w.heap.size, 5, none⟩)), (18, .slice ac cls.length cc), (17, .pointer (some ⟨w.heap.size, 4, none⟩)), (14, .slice an names.length cn), (13, .pointer (some ⟨w.heap.size, 3, none⟩)), (10, .slice ap parts.length cp), (9, .pointer (some ⟨w.heap.size, 2, none⟩)), (7, .slice ai items.length ci), (6, .pointer (some ⟨w.heap.size, 1, none⟩)), (4, .int .i64 kk), (3, .pointer (some ⟨w.heap.size, 0, none⟩))]) (.tmp 15) = .slice a2 names.length k2 := fun a => (look_done (i := 12) (by decide) (by simp [cpyD]) (cpyO 12 (by simp))).trans v2
    have y19 : ∀ a : Act, lookO a (putsI cpyD (behind (cpyD.map fun p => (p.1, false)) (behind cpyR (Array.replicate cpyOps.size false))) V ++ [(27, .int .i64 env), (26, .pointer (some ⟨w.heap.size, 7, none⟩)), (25, .int .i64 code), (24, .pointer (some ⟨w.heap.size, 6, none⟩)), (22, .slice al levels.length cl), (21, .pointer (some ⟨w.heap.size, 5, none⟩)), (18, .slice ac cls.length cc), (17, .pointer (some ⟨w.heap.size, 4, none⟩)), (14, .slice an names.length cn), (13, .pointer (some ⟨w.heap.size, 3, none⟩)), (10, .slice ap parts.length cp), (9, .pointer (some ⟨w.heap.size, 2, none⟩)), (7, .slice ai items.length ci), (6, .pointer (some ⟨w.heap.size, 1, none⟩)), (4, .int .i64 kk), (3, .pointer (some ⟨w.heap.size, 0, none⟩))]) (.tmp 19) = .slice a3 cls.length k3 := fun a => (look_done (i := 16) (by decide) (by simp [cpyD]) (cpyO 16 (by simp))).trans v3
    have y23 : ∀ a : Act, lookO a (putsI cpyD (behind (cpyD.map fun p => (p.1, false)) (behind cpyR (Array.replicate cpyOps.size false))) V ++ [(27, .int .i64 env), (26, .pointer (some ⟨w.heap.size, 7, none⟩)), (25, .int .i64 code), (24, .pointer (some ⟨w.heap.size, 6, none⟩)), (22, .slice al levels.length cl), (21, .pointer (some ⟨w.heap.size, 5, none⟩)), (18, .slice ac cls.length cc), (17, .pointer (some ⟨w.heap.size, 4, none⟩)), (14, .slice an names.length cn), (13, .pointer (some ⟨w.heap.size, 3, none⟩)), (10, .slice ap parts.length cp), (9, .pointer (some ⟨w.heap.size, 2, none⟩)), (7, .slice ai items.length ci), (6, .pointer (some ⟨w.heap.size, 1, none⟩)), (4, .int .i64 kk), (3, .pointer (some ⟨w.heap.size, 0, none⟩))]) (.tmp 23) = .slice a4 levels.length k4 := fun a => (look_done (i := 20) (by decide) (by simp [cpyD]) (cpyO 20 (by simp))).trans v4
    have y25 : ∀ a : Act, lookO a (putsI cpyD (behind (cpyD.map fun p => (p.1, false)) (behind cpyR (Array.replicate cpyOps.size false))) V ++ [(27, .int .i64 env), (26, .pointer (some ⟨w.heap.size, 7, none⟩)), (25, .int .i64 code), (24, .pointer (some ⟨w.heap.size, 6, none⟩)), (22, .slice al levels.length cl), (21, .pointer (some ⟨w.heap.size, 5, none⟩)), (18, .slice ac cls.length cc), (17, .pointer (some ⟨w.heap.size, 4, none⟩)), (14, .slice an names.length cn), (13, .pointer (some ⟨w.heap.size, 3, none⟩)), (10, .slice ap parts.length cp), (9, .pointer (some ⟨w.heap.size, 2, none⟩)), (7, .slice ai items.length ci), (6, .pointer (some ⟨w.heap.size, 1, none⟩)), (4, .int .i64 kk), (3, .pointer (some ⟨w.heap.size, 0, none⟩))]) (.tmp 25) = .int .i64 code := fun a => (look_other (by kernel_rfl)).trans rfl
    have y27 : ∀ a : Act, lookO a (putsI cpyD (behind (cpyD.map fun p => (p.1, false)) (behind cpyR (Array.replicate cpyOps.size false))) V ++ [(27, .int .i64 env), (26, .pointer (some ⟨w.heap.size, 7, none⟩)), (25, .int .i64 code), (24, .pointer (some ⟨w.heap.size, 6, none⟩)), (22, .slice al levels.length cl), (21, .pointer (some ⟨w.heap.size, 5, none⟩)), (18, .slice ac cls.length cc), (17, .pointer (some ⟨w.heap.size, 4, none⟩)), (14, .slice an names.length cn), (13, .pointer (some ⟨w.heap.size, 3, none⟩)), (10, .slice ap parts.length cp), (9, .pointer (some ⟨w.heap.size, 2, none⟩)), (7, .slice ai items.length ci), (6, .pointer (some ⟨w.heap.size, 1, none⟩)), (4, .int .i64 kk), (3, .pointer (some ⟨w.heap.size, 0, none⟩))]) (.tmp 27) = .int .i64 env := fun a => (look_other (by kernel_rfl)).trans rfl
    refine run_yield (v := .agg #[.int .i64 kk, .slice a1 items.length k1, .slice ap' parts.length kp, .slice a2 names.length k2, .slice a3 cls.length k3, .slice a4 levels.length k4, .int .i64 code, .int .i64 env]) (show opAt cpyOps 25 = some (some 28, .build 31 #[(0, .tmp 4), (1, .tmp 8), (2, .tmp 11), (3, .tmp 15), (4, .tmp 19), (5, .tmp 23), (6, .tmp 25), (7, .tmp 27)], none) from by kernel_rfl) (by kernel_rfl) rfl (fun o w' h1 _ => by
      unfold execOp
      simp only [h1, List.map_toArray, List.map_cons, List.map_nil, y4, y8, y11, y15, y19, y23, y25, y27]
      exact run_v build_v8) ?_
    refine run_last (p := .pointer (some ⟨w.heap.size + 1, 0, none⟩)) (u := .agg #[.int .i64 kk, .slice a1 items.length k1, .slice ap' parts.length kp, .slice a2 names.length k2, .slice a3 cls.length k3, .slice a4 levels.length k4, .int .i64 code, .int .i64 env]) (w' := W.setRow (w.heap.size + 1) #[.int .i64 kk, .slice a1 items.length k1, .slice ap' parts.length kp, .slice a2 names.length k2, .slice a3 cls.length k3, .slice a4 levels.length k4, .int .i64 code, .int .i64 env]) (by kernel_rfl) (show opAt cpyOps 26 = some (none, .store 31 (.tmp 2) (.tmp 28), none) from by kernel_rfl) rfl ((look_far (by kernel_rfl) (by kernel_rfl)).trans rfl) (look_new _ _) (store_vec8 (heldC_at hS (List.Mem.tail _ (List.Mem.head _))) (by simp [Value.oneCell'])) (run_done ?_)
    clear y4 y8 y11 y15 y19 y23 y25 y27
    have hputs : putsI cpyD (behind (cpyD.map fun p => (p.1, false)) (behind cpyR (Array.replicate cpyOps.size false))) V = [(5, V 5), (8, V 8), (11, V 11), (12, V 12), (15, V 15), (16, V 16), (19, V 19), (20, V 20), (23, V 23)] := by
      unfold putsI
      rw [cpyF]
      rfl
    rw [hputs]
    simp only [List.cons_append, List.nil_append, putAll, Act.put, List.setIfInBounds_toArray, List.set_cons_zero, List.set_cons_succ]
    have ho : OwnVec W (d + 1) (.mk kk items parts names cls levels code env) (.agg #[.int .i64 kk, .slice a1 items.length k1, .slice ap' parts.length kp, .slice a2 names.length k2, .slice a3 cls.length k3, .slice a4 levels.length k4, .int .i64 code, .int .i64 env]) (F1 ++ (X ++ (F2 ++ (F3 ++ F4)))) := by
      unfold OwnVec
      exact ⟨a1, k1, ap', kp, a2, k2, a3, k3, a4, k4, F1, X, F2, F3, F4, rfl, rfl, ⟨c1, cp', c2, c3, c4⟩, p1, p2, p3, p4, pp⟩
    have hown : Own (d + 1) (.mk kk items parts names cls levels code env) (.agg #[.int .i64 kk, .slice a1 items.length k1, .slice ap' parts.length kp, .slice a2 names.length k2, .slice a3 cls.length k3, .slice a4 levels.length k4, .int .i64 code, .int .i64 env]) w1.heap.size W.heap.size W := by
      refine ⟨F1 ++ (X ++ (F2 ++ (F3 ++ F4))), ho, ?_, fun b hb' => ?_⟩
      · simp only [List.nodup_append, List.mem_append]
        refine ⟨n1, ⟨hnp, ⟨n2, ⟨n3, n4, ?_⟩, ?_⟩, ?_⟩, ?_⟩
        · intro x hx y hy e; subst e; exact d34 x hx hy
        · intro x hx y hy e; subst e
          rcases hy with hy | hy
          · exact d23 x hx hy
          · exact d24 x hx hy
        · intro x hx y hy e; subst e
          rcases hy with hy | hy | hy
          · exact x2 x hy hx
          · exact x3 x hy hx
          · exact x4 x hy hx
        · intro x hx y hy e; subst e
          rcases hy with hy | hy | hy | hy
          · exact x1 x hx hy
          · exact d12 x hx hy
          · exact d13 x hx hy
          · exact d14 x hx hy
      · simp only [List.mem_append] at hb'
        rcases hb' with h | h | h | h | h
        · exact r1 b h
        · exact ⟨hbp b h, hX b h⟩
        · exact r2 b h
        · exact r3 b h
        · exact r4 b h
    have HO := Lib.hid hown
    have HS := Lib.hid hS
    clear ho hown hputs hj ht pp p1 p2 p3 p4 o1 o2 o3 o4
    go_wp2
    exact vec_ret0 rfl rfl rfl (row_set (heldC_at HS.out (List.Mem.tail _ (List.Mem.head _)))) ⟨_, rfl, (HO.out.row hb1).wide (by omega) (row_size _ _ _), below_row HS.out.1 (Nat.le_succ _) _⟩
end Go.Proofs.YtddebgmjolojeaaDoor

/- A vector's five slices while a call makes them. -/
namespace Go.Proofs.YtddebgmjolojeaaDoor
open Go.RowKit
set_option maxRecDepth 100000
set_option linter.unusedVariables false

/-- A row of vectors of the call's own, with the blocks X of the vectors. -/
structure RowX (lo : Nat) (w : World) (d : Nat) (parts : List Vec) (v : Value) (X : List Nat) : Prop where
  ex : ∃ (vals : List Value) (Fs : List (List Nat)), vals.length = parts.length ∧ Fs.length = parts.length ∧ w.ownsRow lo 31 8 v parts.length (vals.flatMap cl8) ∧
    (∀ i, i < parts.length → OwnVec w d (parts.getD i noV) (vals.getD i undef) (Fs.getD i [])) ∧ Fs.flatten = X
theorem RowX.row {lo : Nat} {w : World} {d : Nat} {parts : List Vec} {v : Value} {X : List Nat} (h : RowX lo w d parts v X) : ∃ xs, w.ownsRow lo 31 8 v parts.length xs := by
  obtain ⟨vals, Fs, _, _, hr, _⟩ := h.ex
  exact ⟨_, hr⟩
theorem RowX.nil (lo : Nat) (w : World) (d : Nat) : RowX lo w d [] (.slice none 0 0) [] :=
  ⟨[], [], rfl, rfl, ⟨rfl, .inl ⟨rfl, rfl⟩⟩, fun i h => absurd h (Nat.not_lt_zero _), rfl⟩
theorem RowX.kept {lo : Nat} {w w' : World} {d : Nat} {parts : List Vec} {v : Value} {X : List Nat} (h : RowX lo w d parts v X) (hX : ∀ g ∈ X, w'.heap[g]? = w.heap[g]?) (hv : ∀ g, v.ownBlock = some g → w'.heap[g]? = w.heap[g]?) : RowX lo w' d parts v X := by
  obtain ⟨vals, Fs, h1, h2, h3, h4, rfl⟩ := h.ex
  exact ⟨vals, Fs, h1, h2, ownsRow_kept h3 hv, fun i hi => (h4 i hi).kept _ _ _ _ (fun b hb => hX b (mem_flat (by omega) hb)), rfl⟩
theorem RowX.own {lo : Nat} {w : World} {d : Nat} {parts : List Vec} {v : Value} {X : List Nat} (h : RowX lo w d parts v X) : ∃ ap cp F, v = .slice ap parts.length cp ∧ parts.length ≤ cp ∧
    ((parts = [] ∧ F = []) ∨ ∃ b C, ∃ Fs : List (List Nat), F = b :: Fs.flatten ∧ Fs.length = parts.length ∧ ap = some ⟨b, 0, none⟩ ∧ w.heap[b]? = some (.cells C 31 (0, 0)) ∧ parts.length * 8 ≤ C.size ∧
      ∀ i, i < parts.length → ∃ val, OwnVec w d (parts.getD i noV) val (Fs.getD i []) ∧ Eight C i val) ∧ (∀ g ∈ F, v.ownBlock = some g ∨ g ∈ X) ∧ (X.Nodup → (∀ g, v.ownBlock = some g → g ∉ X) → F.Nodup) := by
  obtain ⟨vals, Fs, h1, h2, ⟨hl, h3⟩, h4, rfl⟩ := h.ex
  rcases h3 with ⟨rfl, h0⟩ | ⟨g, cap, cur, rfl, hB, hg, hc, _, hs, ht⟩
  · have hp : parts = [] := List.eq_nil_of_length_eq_zero h0
    subst hp
    exact ⟨none, 0, [], rfl, Nat.le_refl _, .inl ⟨rfl, rfl⟩, (fun _ h => by cases h), fun _ _ => List.nodup_nil⟩
  · refine ⟨_, cap, g :: Fs.flatten, rfl, hc, .inr ⟨g, cur, Fs, rfl, h2, rfl, hg, by omega, fun i hi => ⟨_, h4 i hi, ?_⟩⟩, fun b hb => ?_, fun hn ho => List.nodup_cons.2 ⟨ho g rfl, hn⟩⟩
    · obtain ⟨c0, c1, c2, c3, c4, c5, c6, c7, e, m0, m1, m2, m3, m4, m5, m6, m7⟩ := flat8_at vals (RowV.is8 h1 h4) i (by omega)
      have key : ∀ j, j < parts.length * 8 → cur[j]? = (vals.flatMap cl8)[j]? := fun j hj => by
        rw [← ht, List.getElem?_take_of_lt hj, Array.getElem?_toList]
      refine ⟨c0, c1, c2, c3, c4, c5, c6, c7, e, ?_, ?_, ?_, ?_, ?_, ?_, ?_, ?_⟩
      · rw [key _ (by omega)]; exact m0
      · rw [key _ (by omega)]; exact m1
      · rw [key _ (by omega)]; exact m2
      · rw [key _ (by omega)]; exact m3
      · rw [key _ (by omega)]; exact m4
      · rw [key _ (by omega)]; exact m5
      · rw [key _ (by omega)]; exact m6
      · rw [key _ (by omega)]; exact m7
    · rcases List.mem_cons.1 hb with rfl | hb
      · exact .inl rfl
      · exact .inr hb
/-- No block is both's. -/
def Apart2 (a b : Value) : Prop := ∀ g, a.ownBlock = some g → b.ownBlock ≠ some g
def Off (v : Value) (X : List Nat) : Prop := ∀ g, v.ownBlock = some g → g ∉ X
def Below1 (v : Value) (w : World) : Prop := ∀ g, v.ownBlock = some g → g < w.heap.size
/-- v' took v's place: the same block, or a new one. -/
def Moved (w : World) (v v' : Value) : Prop := v'.ownBlock = v.ownBlock ∨ ∃ g, v'.ownBlock = some g ∧ w.heap.size ≤ g
theorem Apart2.symm {a b : Value} (h : Apart2 a b) : Apart2 b a := fun g hb ha => h g ha hb
theorem Apart2.moved {w : World} {a a' b : Value} (h : Apart2 a b) (hm : Moved w a a') (hb : Below1 b w) : Apart2 a' b := fun g ha hg => by
  rcases hm with e | ⟨g', e, hle⟩
  · exact h g (e ▸ ha) hg
  · rw [e] at ha
    have := Option.some.inj ha
    have := hb g hg
    omega
theorem Off.moved {w : World} {a a' : Value} {X : List Nat} (h : Off a X) (hm : Moved w a a') (hX : ∀ g ∈ X, g < w.heap.size) : Off a' X := fun g ha hg => by
  rcases hm with e | ⟨g', e, hle⟩
  · exact h g (e ▸ ha) hg
  · rw [e] at ha
    have := Option.some.inj ha
    have := hX g hg
    omega
theorem apart_nil (b : Value) : Apart2 (.slice none 0 0) b := fun g h => by cases h
theorem row_below {lo : Nat} {w : World} {el : TypeId} {size n : Nat} {v : Value} {xs : List Value} (h : w.ownsRow lo el size v n xs) : Below1 v w := fun g hg => (h.lt g hg).2
/-- The five slices of a vector that a call makes, each in blocks of its own, at or above lo. -/
structure Und (lo : Nat) (w : World) (d : Nat) (items : List It) (parts : List Vec) (names cls lev : List ByteArray) (vi vp vn vc vl : Value) (X : List Nat) : Prop where
  i : w.ownsRow lo 67 3 vi items.length (itCells items)
  p : RowX lo w d parts vp X
  n : w.ownsRow lo 9 1 vn names.length (names.map Value.string)
  c : w.ownsRow lo 9 1 vc cls.length (cls.map Value.string)
  l : w.ownsRow lo 9 1 vl lev.length (lev.map Value.string)
  nd : X.Nodup
  rg : ∀ g ∈ X, lo ≤ g ∧ g < w.heap.size
  two : (Apart2 vi vp ∧ Apart2 vi vn ∧ Apart2 vi vc ∧ Apart2 vi vl) ∧ (Apart2 vp vn ∧ Apart2 vp vc ∧ Apart2 vp vl) ∧ (Apart2 vn vc ∧ Apart2 vn vl) ∧ Apart2 vc vl
  off : Off vi X ∧ Off vp X ∧ Off vn X ∧ Off vc X ∧ Off vl X
theorem Und.start (lo : Nat) (w : World) (d : Nat) : Und lo w d [] [] [] [] [] (.slice none 0 0) (.slice none 0 0) (.slice none 0 0) (.slice none 0 0) (.slice none 0 0) [] :=
  ⟨⟨rfl, .inl ⟨rfl, rfl⟩⟩, RowX.nil _ _ _, ⟨rfl, .inl ⟨rfl, rfl⟩⟩, ⟨rfl, .inl ⟨rfl, rfl⟩⟩, ⟨rfl, .inl ⟨rfl, rfl⟩⟩, List.nodup_nil, (fun _ h => by cases h), ⟨⟨apart_nil _, apart_nil _, apart_nil _, apart_nil _⟩, ⟨apart_nil _, apart_nil _, apart_nil _⟩, ⟨apart_nil _, apart_nil _⟩, apart_nil _⟩, ⟨(fun _ _ h => by cases h), (fun _ _ h => by cases h), (fun _ _ h => by cases h), (fun _ _ h => by cases h), (fun _ _ h => by cases h)⟩⟩
theorem Und.pb {lo : Nat} {w : World} {d : Nat} {items : List It} {parts : List Vec} {names cls lev : List ByteArray} {vi vp vn vc vl : Value} {X : List Nat} (h : Und lo w d items parts names cls lev vi vp vn vc vl X) : Below1 vp w ∧ ∀ g, vp.ownBlock = some g → lo ≤ g := by
  obtain ⟨xs, hr⟩ := h.p.row
  exact ⟨row_below hr, fun g hg => (hr.lt g hg).1⟩
theorem Und.kept {lo : Nat} {w : World} {d : Nat} {items : List It} {parts : List Vec} {names cls lev : List ByteArray} {vi vp vn vc vl : Value} {X : List Nat} {w' : World} (h : Und lo w d items parts names cls lev vi vp vn vc vl X) (hk : ∀ g, lo ≤ g → g < w.heap.size → w'.heap[g]? = w.heap[g]?) (hs : w.heap.size ≤ w'.heap.size) : Und lo w' d items parts names cls lev vi vp vn vc vl X :=
  ⟨ownsRow_kept h.i fun g hg => hk g (h.i.lt g hg).1 (h.i.lt g hg).2, h.p.kept (fun g hg => hk g (h.rg g hg).1 (h.rg g hg).2) (fun g hg => hk g (h.pb.2 g hg) (h.pb.1 g hg)), ownsRow_kept h.n fun g hg => hk g (h.n.lt g hg).1 (h.n.lt g hg).2, ownsRow_kept h.c fun g hg => hk g (h.c.lt g hg).1 (h.c.lt g hg).2, ownsRow_kept h.l fun g hg => hk g (h.l.lt g hg).1 (h.l.lt g hg).2, h.nd, fun g hg => ⟨(h.rg g hg).1, Nat.lt_of_lt_of_le (h.rg g hg).2 hs⟩, h.two, h.off⟩
theorem Und.below {lo : Nat} {w : World} {d : Nat} {items : List It} {parts : List Vec} {names cls lev : List ByteArray} {vi vp vn vc vl : Value} {X : List Nat} {w' : World} (h : Und lo w d items parts names cls lev vi vp vn vc vl X) (hb : Below w.heap.size w w') : Und lo w' d items parts names cls lev vi vp vn vc vl X := h.kept (fun g _ hg => hb.block g hg) hb.size
/-- A store into a block below lo. -/
theorem Und.put {lo : Nat} {w : World} {d : Nat} {items : List It} {parts : List Vec} {names cls lev : List ByteArray} {vi vp vn vc vl : Value} {X : List Nat} (h : Und lo w d items parts names cls lev vi vp vn vc vl X) {b j : Nat} {u : Value} (hb : b < lo) : Und lo (w.setCell ⟨b, j, none⟩ u) d items parts names cls lev vi vp vn vc vl X :=
  h.kept (fun g hg _ => Below.heap_setCell _ _ _ _ (by show g ≠ b; omega)) (by simp)
theorem Und.setI {lo : Nat} {w : World} {d : Nat} {items : List It} {parts : List Vec} {names cls lev : List ByteArray} {vi vp vn vc vl : Value} {X : List Nat} {w' : World} {items' : List It} {vi' : Value} (h : Und lo w d items parts names cls lev vi vp vn vc vl X) (hr : w'.ownsRow lo 67 3 vi' items'.length (itCells items')) (hm : Moved w vi vi') (hk : ∀ g, lo ≤ g → g < w.heap.size → vi.ownBlock ≠ some g → w'.heap[g]? = w.heap[g]?) (hs : w.heap.size ≤ w'.heap.size) :
    Und lo w' d items' parts names cls lev vi' vp vn vc vl X :=
  ⟨hr, h.p.kept (fun g hg => hk g (h.rg g hg).1 (h.rg g hg).2 (fun e => h.off.1 g e hg)) (fun g hg => hk g (h.pb.2 g hg) (h.pb.1 g hg) (fun e => h.two.1.1 g e hg)), ownsRow_kept h.n (fun g hg => hk g (h.n.lt g hg).1 (h.n.lt g hg).2 (fun e => h.two.1.2.1 g e hg)), ownsRow_kept h.c (fun g hg => hk g (h.c.lt g hg).1 (h.c.lt g hg).2 (fun e => h.two.1.2.2.1 g e hg)), ownsRow_kept h.l (fun g hg => hk g (h.l.lt g hg).1 (h.l.lt g hg).2 (fun e => h.two.1.2.2.2 g e hg)), h.nd, fun g hg => ⟨(h.rg g hg).1, Nat.lt_of_lt_of_le (h.rg g hg).2 hs⟩, ⟨⟨(h.two.1.1.moved hm h.pb.1), (h.two.1.2.1.moved hm (row_below h.n)), (h.two.1.2.2.1.moved hm (row_below h.c)), (h.two.1.2.2.2.moved hm (row_below h.l))⟩, ⟨h.two.2.1.1, h.two.2.1.2.1, h.two.2.1.2.2⟩, ⟨h.two.2.2.1.1, h.two.2.2.1.2⟩, h.two.2.2.2⟩, ⟨h.off.1.moved hm (fun g hg => (h.rg g hg).2), h.off.2.1, h.off.2.2.1, h.off.2.2.2.1, h.off.2.2.2.2⟩⟩
theorem Und.setN {lo : Nat} {w : World} {d : Nat} {items : List It} {parts : List Vec} {names cls lev : List ByteArray} {vi vp vn vc vl : Value} {X : List Nat} {w' : World} {names' : List ByteArray} {vn' : Value} (h : Und lo w d items parts names cls lev vi vp vn vc vl X) (hr : w'.ownsRow lo 9 1 vn' names'.length (names'.map Value.string)) (hm : Moved w vn vn') (hk : ∀ g, lo ≤ g → g < w.heap.size → vn.ownBlock ≠ some g → w'.heap[g]? = w.heap[g]?) (hs : w.heap.size ≤ w'.heap.size) :
    Und lo w' d items parts names' cls lev vi vp vn' vc vl X :=
  ⟨ownsRow_kept h.i (fun g hg => hk g (h.i.lt g hg).1 (h.i.lt g hg).2 (fun e => h.two.1.2.1.symm g e hg)), h.p.kept (fun g hg => hk g (h.rg g hg).1 (h.rg g hg).2 (fun e => h.off.2.2.1 g e hg)) (fun g hg => hk g (h.pb.2 g hg) (h.pb.1 g hg) (fun e => h.two.2.1.1.symm g e hg)), hr, ownsRow_kept h.c (fun g hg => hk g (h.c.lt g hg).1 (h.c.lt g hg).2 (fun e => h.two.2.2.1.1 g e hg)), ownsRow_kept h.l (fun g hg => hk g (h.l.lt g hg).1 (h.l.lt g hg).2 (fun e => h.two.2.2.1.2 g e hg)), h.nd, fun g hg => ⟨(h.rg g hg).1, Nat.lt_of_lt_of_le (h.rg g hg).2 hs⟩, ⟨⟨h.two.1.1, (h.two.1.2.1.symm.moved hm (row_below h.i)).symm, h.two.1.2.2.1, h.two.1.2.2.2⟩, ⟨(h.two.2.1.1.symm.moved hm h.pb.1).symm, h.two.2.1.2.1, h.two.2.1.2.2⟩, ⟨(h.two.2.2.1.1.moved hm (row_below h.c)), (h.two.2.2.1.2.moved hm (row_below h.l))⟩, h.two.2.2.2⟩, ⟨h.off.1, h.off.2.1, h.off.2.2.1.moved hm (fun g hg => (h.rg g hg).2), h.off.2.2.2.1, h.off.2.2.2.2⟩⟩
theorem Und.setP {lo : Nat} {w : World} {d : Nat} {items : List It} {parts : List Vec} {names cls lev : List ByteArray} {vi vp vn vc vl : Value} {X : List Nat} {w' : World} {parts' : List Vec} {vp' : Value} {X' : List Nat} (h : Und lo w d items parts names cls lev vi vp vn vc vl X) (hr : RowX lo w' d parts' vp' X') (hm : Moved w vp vp') (hk : ∀ g, lo ≤ g → g < w.heap.size → vp.ownBlock ≠ some g → w'.heap[g]? = w.heap[g]?) (hs : w.heap.size ≤ w'.heap.size)
    (hnd : X'.Nodup) (hX : ∀ g ∈ X', (g ∈ X ∨ w.heap.size ≤ g) ∧ g < w'.heap.size) (hlo : lo ≤ w.heap.size) (hoff : Off vp' X') : Und lo w' d items parts' names cls lev vi vp' vn vc vl X' := by
  have F : ∀ {v : Value}, Off v X → Below1 v w → Off v X' := fun hv hb g hg hx => by
    rcases (hX g hx).1 with h1 | h1
    · exact hv g hg h1
    · have := hb g hg; omega
  exact ⟨ownsRow_kept h.i (fun g hg => hk g (h.i.lt g hg).1 (h.i.lt g hg).2 (fun e => h.two.1.1.symm g e hg)), hr, ownsRow_kept h.n (fun g hg => hk g (h.n.lt g hg).1 (h.n.lt g hg).2 (fun e => h.two.2.1.1 g e hg)), ownsRow_kept h.c (fun g hg => hk g (h.c.lt g hg).1 (h.c.lt g hg).2 (fun e => h.two.2.1.2.1 g e hg)), ownsRow_kept h.l (fun g hg => hk g (h.l.lt g hg).1 (h.l.lt g hg).2 (fun e => h.two.2.1.2.2 g e hg)), hnd, fun g hg => ⟨(by rcases (hX g hg).1 with h1 | h1; exact (h.rg g h1).1; omega), (hX g hg).2⟩, ⟨⟨(h.two.1.1.symm.moved hm (row_below h.i)).symm, h.two.1.2.1, h.two.1.2.2.1, h.two.1.2.2.2⟩, ⟨(h.two.2.1.1.moved hm (row_below h.n)), (h.two.2.1.2.1.moved hm (row_below h.c)), (h.two.2.1.2.2.moved hm (row_below h.l))⟩, ⟨h.two.2.2.1.1, h.two.2.2.1.2⟩, h.two.2.2.2⟩, ⟨F h.off.1 (row_below h.i), hoff, F h.off.2.2.1 (row_below h.n), F h.off.2.2.2.1 (row_below h.c), F h.off.2.2.2.2 (row_below h.l)⟩⟩
theorem Und.own {lo : Nat} {w : World} {d : Nat} {items : List It} {parts : List Vec} {names cls lev : List ByteArray} {vi vp vn vc vl : Value} {X : List Nat} (h : Und lo w d items parts names cls lev vi vp vn vc vl X) (k : Int) : Own (d + 1) (.mk k items parts names cls lev 0 0) (.agg #[.int .i64 k, vi, vp, vn, vc, vl, .int .i64 0, .int .i64 0]) lo w.heap.size w := by
  have off := h.off
  have two := h.two
  have pb := h.pb
  have rg := h.rg
  obtain ⟨ai, ci, Fi, rfl, oi, ni, ri, qi⟩ := own_of_its h.i
  obtain ⟨ap, cp, Fp, rfl, qp, op, dp, np⟩ := h.p.own
  obtain ⟨an, cn, Fn, rfl, on, nn, rn, qn⟩ := txs_of_row h.n
  obtain ⟨ac, cc, Fc, rfl, oc, nc, rc, qc⟩ := txs_of_row h.c
  obtain ⟨al, cl, Fl, rfl, ol, nl, rl, ql⟩ := txs_of_row h.l
  have di := oi.blk items.length ci
  have dn := on.blk names.length cn
  have dc := oc.blk cls.length cc
  have dl := ol.blk lev.length cl
  refine ⟨Fi ++ (Fp ++ (Fn ++ (Fc ++ Fl))), ?_, ?_, ?_⟩
  · unfold OwnVec
    exact ⟨ai, ci, ap, cp, an, cn, ac, cc, al, cl, Fi, Fp, Fn, Fc, Fl, rfl, rfl, ⟨qi, qp, qn, qc, ql⟩, oi, on, oc, ol, op⟩
  · rw [List.nodup_append, List.nodup_append, List.nodup_append, List.nodup_append]
    refine ⟨ni, ⟨np h.nd off.2.1, ⟨nn, ⟨nc, nl, fun x hx y hy e => two.2.2.2 x (dc x hx) (e ▸ dl y hy)⟩, fun x hx y hy e => ?_⟩, fun x hx y hy e => ?_⟩, fun x hx y hy e => ?_⟩
    · rcases List.mem_append.1 hy with hy | hy
      · exact two.2.2.1.1 x (dn x hx) (e ▸ dc y hy)
      · exact two.2.2.1.2 x (dn x hx) (e ▸ dl y hy)
    · subst e
      rcases dp x hx with hx | hx
      · rcases List.mem_append.1 hy with hy | hy
        · exact two.2.1.1 x hx (dn x hy)
        · rcases List.mem_append.1 hy with hy | hy
          · exact two.2.1.2.1 x hx (dc x hy)
          · exact two.2.1.2.2 x hx (dl x hy)
      · rcases List.mem_append.1 hy with hy | hy
        · exact off.2.2.1 x (dn x hy) hx
        · rcases List.mem_append.1 hy with hy | hy
          · exact off.2.2.2.1 x (dc x hy) hx
          · exact off.2.2.2.2 x (dl x hy) hx
    · subst e
      rcases List.mem_append.1 hy with hy | hy
      · rcases dp x hy with hy | hy
        · exact two.1.1 x (di x hx) hy
        · exact off.1 x (di x hx) hy
      · rcases List.mem_append.1 hy with hy | hy
        · exact two.1.2.1 x (di x hx) (dn x hy)
        · rcases List.mem_append.1 hy with hy | hy
          · exact two.1.2.2.1 x (di x hx) (dc x hy)
          · exact two.1.2.2.2 x (di x hx) (dl x hy)
  · intro g hg
    rcases List.mem_append.1 hg with hg | hg
    · exact ri g hg
    · rcases List.mem_append.1 hg with hg | hg
      · rcases dp g hg with hg | hg
        · exact ⟨pb.2 g hg, pb.1 g hg⟩
        · exact rg g hg
      · rcases List.mem_append.1 hg with hg | hg
        · exact rn g hg
        · rcases List.mem_append.1 hg with hg | hg
          · exact rc g hg
          · exact rl g hg
/-- A block that is none of the five slices'. -/
def UFree (b : Nat) (vi vp vn vc vl : Value) (X : List Nat) : Prop := vi.ownBlock ≠ some b ∧ vp.ownBlock ≠ some b ∧ vn.ownBlock ≠ some b ∧ vc.ownBlock ≠ some b ∧ vl.ownBlock ≠ some b ∧ b ∉ X
theorem Und.free {lo : Nat} {w : World} {d : Nat} {items : List It} {parts : List Vec} {names cls lev : List ByteArray} {vi vp vn vc vl : Value} {X : List Nat} (h : Und lo w d items parts names cls lev vi vp vn vc vl X) {b : Nat} (hb : w.heap.size ≤ b) : UFree b vi vp vn vc vl X :=
  ⟨fun e => by have := (h.i.lt b e).2; omega, fun e => by have := h.pb.1 b e; omega, fun e => by have := (h.n.lt b e).2; omega, fun e => by have := (h.c.lt b e).2; omega, fun e => by have := (h.l.lt b e).2; omega, fun e => by have := (h.rg b e).2; omega⟩
theorem Und.under {lo : Nat} {w : World} {d : Nat} {items : List It} {parts : List Vec} {names cls lev : List ByteArray} {vi vp vn vc vl : Value} {X : List Nat} (h : Und lo w d items parts names cls lev vi vp vn vc vl X) {b : Nat} (hb : b < lo) : UFree b vi vp vn vc vl X :=
  ⟨fun e => by have := (h.i.lt b e).1; omega, fun e => by have := h.pb.2 b e; omega, fun e => by have := (h.n.lt b e).1; omega, fun e => by have := (h.c.lt b e).1; omega, fun e => by have := (h.l.lt b e).1; omega, fun e => by have := (h.rg b e).1; omega⟩
/-- All but one block are kept. -/
theorem Und.but {lo : Nat} {w : World} {d : Nat} {items : List It} {parts : List Vec} {names cls lev : List ByteArray} {vi vp vn vc vl : Value} {X : List Nat} {w' : World} {b : Nat} (h : Und lo w d items parts names cls lev vi vp vn vc vl X) (hf : UFree b vi vp vn vc vl X) (hk : ∀ g, g < w.heap.size → g ≠ b → w'.heap[g]? = w.heap[g]?) (hs : w.heap.size ≤ w'.heap.size) : Und lo w' d items parts names cls lev vi vp vn vc vl X :=
  ⟨ownsRow_kept h.i fun g hg => hk g (h.i.lt g hg).2 (fun e => hf.1 (e ▸ hg)), h.p.kept (fun g hg => hk g (h.rg g hg).2 (fun e => hf.2.2.2.2.2 (e ▸ hg))) (fun g hg => hk g (h.pb.1 g hg) (fun e => hf.2.1 (e ▸ hg))), ownsRow_kept h.n fun g hg => hk g (h.n.lt g hg).2 (fun e => hf.2.2.1 (e ▸ hg)), ownsRow_kept h.c fun g hg => hk g (h.c.lt g hg).2 (fun e => hf.2.2.2.1 (e ▸ hg)), ownsRow_kept h.l fun g hg => hk g (h.l.lt g hg).2 (fun e => hf.2.2.2.2.1 (e ▸ hg)), h.nd, fun g hg => ⟨(h.rg g hg).1, Nat.lt_of_lt_of_le (h.rg g hg).2 hs⟩, h.two, h.off⟩
theorem row_lo {lo base : Nat} {w : World} {el : TypeId} {size n : Nat} {v : Value} {xs : List Value} (h : w.ownsRow base el size v n xs) (hl : lo ≤ base) : w.ownsRow lo el size v n xs := by
  obtain ⟨h1, h2⟩ := h
  refine ⟨h1, h2.imp id ?_⟩
  rintro ⟨g, cap, cur, e, hB, r⟩
  exact ⟨g, cap, cur, e, Nat.le_trans hl hB, r⟩
theorem Und.wide {lo : Nat} {w : World} {d : Nat} {items : List It} {parts : List Vec} {names cls lev : List ByteArray} {vi vp vn vc vl : Value} {X : List Nat} {lo' : Nat} (h : Und lo w d items parts names cls lev vi vp vn vc vl X) (hl : lo' ≤ lo) : Und lo' w d items parts names cls lev vi vp vn vc vl X := by
  obtain ⟨vals, Fs, h1, h2, h3, h4, h5⟩ := h.p.ex
  exact ⟨row_lo h.i hl, ⟨vals, Fs, h1, h2, row_lo h3 hl, h4, h5⟩, row_lo h.n hl, row_lo h.c hl, row_lo h.l hl, h.nd, fun g hg => ⟨Nat.le_trans hl (h.rg g hg).1, (h.rg g hg).2⟩, h.two, h.off⟩
/-- Own, its names left out. -/
theorem Own.noNames {k : Int} {items : List It} {parts : List Vec} {names cls lev : List ByteArray} {code env : Int} {d lo hi : Nat} {w : World} {c0 c1 c2 c3 c4 c5 c6 c7 : Value} (h : Own (d + 1) (.mk k items parts names cls lev code env) (.agg #[c0, c1, c2, c3, c4, c5, c6, c7]) lo hi w) (a : Option Addr) (c : Nat) : Own (d + 1) (.mk k items parts [] cls lev code env) (.agg #[c0, c1, c2, .slice a 0 c, c4, c5, c6, c7]) lo hi w := by
  obtain ⟨F, ho, hnd, hrg⟩ := h.out
  unfold OwnVec at ho
  obtain ⟨ai, ci, ap, cp, an, cn, ac, cc, al, cl, Fi, Fp, Fn, Fc, Fl, e, rfl, hC, i1, i2, i3, i4, i5⟩ := ho
  simp only [Value.agg.injEq, Array.mk.injEq, List.cons.injEq, and_true] at e
  obtain ⟨rfl, rfl, rfl, rfl, rfl, rfl, rfl, rfl⟩ := e
  refine ⟨Fi ++ (Fp ++ ([] ++ (Fc ++ Fl))), ?_, ?_, ?_⟩
  · unfold OwnVec
    exact ⟨ai, ci, ap, cp, a, c, ac, cc, al, cl, Fi, Fp, [], Fc, Fl, rfl, rfl, ⟨hC.1, hC.2.1, Nat.zero_le _, hC.2.2.2.1, hC.2.2.2.2⟩, i1, .inl ⟨rfl, rfl⟩, i3, i4, i5⟩
  · simp only [List.nodup_append, List.mem_append, List.nil_append] at hnd ⊢
    grind
  · intro g hg
    exact hrg g (by simp only [List.mem_append, List.nil_append] at hg ⊢; grind)
end Go.Proofs.YtddebgmjolojeaaDoor

/- Lists of ints that a call builds: indexesWhere, positionsOf. -/
namespace Go.Proofs.YtddebgmjolojeaaDoor
open Go.RowKit
set_option maxRecDepth 100000
set_option linter.unusedVariables false

/-- A list of ints in memory. -/
def intC (l : List Int) : List Value := l.map (fun x => .int .i64 x)
theorem intC_F (l : List Int) : intsF (fun i => l.getD i 0) l.length = intC l := by
  unfold intsF intC
  apply List.ext_getElem
  · simp
  · intro i h1 h2
    simp only [List.length_map] at h2
    simp [List.getD_eq_getElem?_getD, h2]
/-- What a loop that appends ints to a local slice keeps. -/
structure IntZ (w wr : World) (l : List Int) (v : Value) : Prop where
  row : wr.ownsRow w.heap.size 3 1 v l.length (intC l)
  below : Below w.heap.size w wr
theorem IntZ.keep {w wr w1 : World} {l : List Int} {v : Value} (h : IntZ w wr l v) (hb : Below wr.heap.size wr w1) : IntZ w w1 l v := ⟨ownsRow_below h.row hb, below_then h.below hb⟩
theorem IntZ.nil (w wr : World) (hb : Below w.heap.size w wr) : IntZ w wr [] (.slice none 0 0) := ⟨⟨rfl, .inl ⟨rfl, rfl⟩⟩, hb⟩
theorem IntZ.ints {w wr : World} {l : List Int} {v : Value} (h : IntZ w wr l v) : ∃ sa c, v = .slice sa l.length c ∧ IntsAt wr.heap.size wr sa l.length (fun i => l.getD i 0) :=
  ints_of_row (f := fun i => l.getD i 0) (by rw [intC_F]; exact h.row)
/-- The indexes below k at which p holds. -/
def whN (p : Nat → Bool) (k : Nat) : List Nat := (List.range k).filter p
def whZ (p : Nat → Bool) (k : Nat) : List Int := (whN p k).map (fun (i : Nat) => (i : Int))
def posZ (f : Nat → Int) (k : Nat) : List Int := (List.range k).map (fun i => f i + 1)
end Go.Proofs.YtddebgmjolojeaaDoor

/- The problem of one operand, in the program; an item that is appended. -/
namespace Go.Proofs.YtddebgmjolojeaaDoor
open Go.RowKit
set_option maxRecDepth 100000
set_option linter.unusedVariables false

end Go.Proofs.YtddebgmjolojeaaDoor

/- Elements selected by indexes: selectFrom at items, texts and vectors, knownNames. -/
namespace Go.Proofs.YtddebgmjolojeaaDoor
open Go.RowKit
set_option maxRecDepth 100000
set_option linter.unusedVariables false

/-- The elements at the indexes; none of a list without elements. -/
def pkL {α : Type} (z : α) (l : List α) (idx : List Nat) : List α := match l with | [] => [] | _ :: _ => idx.map (fun i => l.getD i z)
/-- The first k of them. -/
def pkF {α : Type} (z : α) (l : List α) (idx : List Nat) (k : Nat) : List α := (idx.take k).map (fun i => l.getD i z)
/-- Indexes as ints. -/
def ixF (idx : List Nat) (i : Nat) : Int := ((idx.getD i 0 : Nat) : Int)
/-- What a loop that appends texts to a local slice keeps. -/
structure TxZ (w wr : World) (l : List ByteArray) (v : Value) : Prop where
  row : wr.ownsRow w.heap.size 9 1 v l.length (l.map Value.string)
  below : Below w.heap.size w wr
theorem TxZ.keep {w wr w1 : World} {l : List ByteArray} {v : Value} (h : TxZ w wr l v) (hb : Below wr.heap.size wr w1) : TxZ w w1 l v := ⟨ownsRow_below h.row hb, below_then h.below hb⟩
theorem TxZ.nil (w wr : World) (hb : Below w.heap.size w wr) : TxZ w wr [] (.slice none 0 0) := ⟨⟨rfl, .inl ⟨rfl, rfl⟩⟩, hb⟩
theorem ItR.nil (w wr : World) (hb : Below w.heap.size w wr) : ItR w wr [] (.slice none 0 0) := ⟨⟨rfl, .inl ⟨rfl, rfl⟩⟩, hb⟩
/-- What a loop that appends vectors of old memory to a local slice keeps. -/
structure RowO (lo hi : Nat) (w wr : World) (d : Nat) (P : List Vec) (k : Nat) (v : Value) : Prop where
  ex : ∃ vals : List Value, vals.length = k ∧ wr.ownsRow w.heap.size 31 8 v k (vals.flatMap cl8) ∧ ∀ i, i < k → Is8 (vals.getD i undef) ∧ VecAt lo hi w d (P.getD i noV) (vals.getD i undef)
  below : Below w.heap.size w wr
theorem RowO.nil (lo hi : Nat) (w : World) (d : Nat) (P : List Vec) : RowO lo hi w w d P 0 (.slice none 0 0) := ⟨⟨[], rfl, ⟨rfl, .inl ⟨rfl, rfl⟩⟩, fun i h => absurd h (Nat.not_lt_zero _)⟩, Below.refl _ _⟩
theorem RowO.keep {lo hi : Nat} {w wr w1 : World} {d : Nat} {P : List Vec} {k : Nat} {v : Value} (h : RowO lo hi w wr d P k v) (hb : Below wr.heap.size wr w1) : RowO lo hi w w1 d P k v := by
  obtain ⟨vals, h1, h2, h3⟩ := h.ex
  exact ⟨⟨vals, h1, ownsRow_below h2 hb, h3⟩, below_then h.below hb⟩
theorem RowO.row {lo hi : Nat} {w wr : World} {d : Nat} {P : List Vec} {k : Nat} {v : Value} (h : RowO lo hi w wr d P k v) : ∃ xs, wr.ownsRow w.heap.size 31 8 v k xs := by
  obtain ⟨vals, _, h2, _⟩ := h.ex
  exact ⟨_, h2⟩
theorem RowO.next {lo hi : Nat} {w wr w1 w2 : World} {d : Nat} {P : List Vec} {k : Nat} {v v' : Value} {c0 c1 c2 c3 c4 c5 c6 c7 : Value} (h : RowO lo hi w wr d P k v) (hv : VecAt lo hi w d (P.getD k noV) (.agg #[c0, c1, c2, c3, c4, c5, c6, c7])) (hb : Below wr.heap.size wr w1) (hg : w1.grownBy w2 v.ownBlock)
    (hr : ∀ xs, wr.ownsRow w.heap.size 31 8 v k xs → w2.ownsRow w.heap.size 31 8 v' (k + 1) (xs ++ [c0, c1, c2, c3, c4, c5, c6, c7])) : RowO lo hi w w2 d P (k + 1) v' := by
  obtain ⟨vals, h1, h2, h3⟩ := h.ex
  refine ⟨⟨vals ++ [Value.agg #[c0, c1, c2, c3, c4, c5, c6, c7]], by simp [h1], ?_, fun i hi => ?_⟩, (below_then h.below hb).grown hg (Nat.le_trans h.below.size hb.size) (fun r hr' => (h2.lt r hr').1)⟩
  · rw [List.flatMap_append]; exact hr _ h2
  · by_cases e : i = k
    · subst e
      have e1 : (vals ++ [Value.agg #[c0, c1, c2, c3, c4, c5, c6, c7]]).getD i undef = .agg #[c0, c1, c2, c3, c4, c5, c6, c7] := by rw [List.getD_eq_getElem?_getD, List.getElem?_append_right (by omega)]; simp [h1]
      rw [e1]
      exact ⟨⟨_, _, _, _, _, _, _, _, rfl⟩, hv⟩
    · have e1 : (vals ++ [Value.agg #[c0, c1, c2, c3, c4, c5, c6, c7]]).getD i undef = vals.getD i undef := by rw [List.getD_eq_getElem?_getD, List.getD_eq_getElem?_getD, List.getElem?_append_left (by omega)]
      rw [e1]
      exact h3 i (by omega)
/-- Names, or none where all are empty. -/
noncomputable def clnN (l : List ByteArray) : List ByteArray := match bB (∃ i, i < l.length ∧ (l.getD i ⟨#[]⟩).size ≠ 0) with | true => l | false => []
theorem clnN_yes {l : List ByteArray} (h : ∃ i, i < l.length ∧ (l.getD i ⟨#[]⟩).size ≠ 0) : clnN l = l := by unfold clnN; rw [bB_yes h]
theorem clnN_no {l : List ByteArray} (h : ¬ ∃ i, i < l.length ∧ (l.getD i ⟨#[]⟩).size ≠ 0) : clnN l = [] := by unfold clnN; rw [bB_no h]
theorem implKnownN (l : List ByteArray) (a : Option Addr) (c lo hi : Nat) (w : World) (hT : TextsAt lo hi w a l) (hn : l.length ≤ 1048576) :
    Calls Tryd.prog 48 #[.slice a l.length c] w fun e w' => ((clnN l = l ∧ e = .returned (.slice a l.length c)) ∨ (clnN l = [] ∧ e = .returned (.slice none 0 0))) ∧ w = w' := by
  have C := Lib.hid (fun W => (show w = W → _ from fun e => by subst e; exact implAreEmpty a l.length c (fun i => l.getD i ⟨#[]⟩) hi w hT.strs (by omega)))
  by_cases h : ∃ i, i < l.length ∧ (l.getD i ⟨#[]⟩).size ≠ 0
  · have X := Lib.hid (clnN_yes h)
    have E : bB (¬ SomeIn (fun i => l.getD i ⟨#[]⟩) l.length) = false := bB_no (fun k => k h)
    rw [E] at C
    clear h E hT
    go_enter Tryd.func48, Tryd.ntmps48
    go_wp2_with fail
    with_reducible refine (C.out _ rfl).mono ?_
    rintro e w' ⟨rfl, rfl⟩
    go_wp2
    go_ret
    exact ⟨.inl ⟨X.out, rfl⟩, rfl⟩
  · have X := Lib.hid (clnN_no h)
    have E : bB (¬ SomeIn (fun i => l.getD i ⟨#[]⟩) l.length) = true := bB_yes h
    rw [E] at C
    clear h E hT
    go_enter Tryd.func48, Tryd.ntmps48
    go_wp2_with fail
    with_reducible refine (C.out _ rfl).mono ?_
    rintro e w' ⟨rfl, rfl⟩
    go_wp2
    go_ret
    exact ⟨.inr ⟨X.out, rfl⟩, rfl⟩
end Go.Proofs.YtddebgmjolojeaaDoor
