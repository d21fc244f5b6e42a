/- Vectors of items that a call builds; LogicalVector of the program. -/
import Derived.Test.YtikgcogiiohahaaGreatDoorRows
import Derived.Test.YtikgcogiiohahaaGreatDoorMm1
import Derived.Test.YtikgcogiiohahaaGreatDoorNumMake
import Derived.Test.YtikgcogiiohahaaGreatDoorNumGcd
import Derived.Test.YtikgcogiiohahaaGreatDoorProg
import Derived.Test.YtikgcogiiohahaaGreatDoorVecIt
import Derived.Test.YtikgcogiiohahaaGreatDoorNumMath
import Derived.Test.YtikgcogiiohahaaGreatDoorVecIs
import Derived.Test.YtikgcogiiohahaaGreatDoorVecStrI
import Derived.Test.YtikgcogiiohahaaGreatDoorVecMath
import Derived.Test.YtikgcogiiohahaaGreatDoorVecStr
import Derived.Test.YtikgcogiiohahaaGreatDoorVec
import Derived.Test.YtikgcogiiohahaaGreatDoorNumIn
import Derived.WalkKit
import Derived.OwnWalk
import Derived.Deep.DeepCutAuto
import Derived.Lib.Hide
import Derived.Laws.ResultCell
import Derived.OpenShut
import Derived.RegionTactic
import Derived.IntWalk
import Derived.Deep.MidRow
import Derived.WalkSpells
import Derived.WalkLawsBesides
import Derived.Shelf.Strconv.Itoa0
import Derived.Shelf.Strconv.Itoa1
import Derived.Shelf.LaysM
import Derived.Shelf.Strconv.Itoa2
import Derived.Shelf.Strconv.Itoa3
import Derived.Shelf.Slices.Turned
import Derived.Lib.AppendIntMem
import Derived.Maps.AppendAt
import Derived.Laws.EntriesVeiled
import Derived.Deep.Slices
import Derived.Deep.Fields
import Derived.ChangeSame
namespace Go.Proofs.YtikgcogiiohahaaGreatDoor
open Go.RowKit
set_option maxRecDepth 100000
set_option linter.unusedVariables false

/-- A vector of items alone. -/
def vecOf (k : Int) (l : List It) : Vec := .mk k l [] [] [] [] 0 0
def itF (g : Nat → It) (n : Nat) : List It := (List.range n).map g
theorem itF_len (g : Nat → It) (n : Nat) : (itF g n).length = n := by simp [itF]
theorem itF_succ (g : Nat → It) (n : Nat) : itF g n ++ [g n] = itF g (n + 1) := by unfold itF; rw [List.range_succ, List.map_append]; rfl
theorem own_zero (lo hi : Nat) (w : World) : Own 1 noV (.agg #[.int .i64 0, .slice none 0 0, .slice none 0 0, .slice none 0 0, .slice none 0 0, .slice none 0 0, .int .i64 0, .int .i64 0]) lo hi w := by
  refine ⟨[], ?_, List.nodup_nil, (fun _ h => by cases h)⟩
  show OwnVec w 1 (.mk 0 [] [] [] [] [] 0 0) _ []
  unfold OwnVec
  exact ⟨none, 0, none, 0, none, 0, none, 0, none, 0, [], [], [], [], [], rfl, rfl, ⟨Nat.le_refl _, Nat.le_refl _, Nat.le_refl _, Nat.le_refl _, Nat.le_refl _⟩, .inl ⟨rfl, rfl⟩, .inl ⟨rfl, rfl⟩, .inl ⟨rfl, rfl⟩, .inl ⟨rfl, rfl⟩, .inl ⟨rfl, rfl⟩⟩
/-- A vector whose items the call has built. -/
theorem own_vecOf {w : World} {B lo : Nat} {k : Int} {l : List It} {sa : Option Addr} {sn sc : Nat} (h : w.ownsRow B 45 3 (.slice sa sn sc) l.length (itCells l)) (hB : lo ≤ B) : Own 1 (vecOf k l) (.agg #[.int .i64 k, .slice sa sn sc, .slice none 0 0, .slice none 0 0, .slice none 0 0, .slice none 0 0, .int .i64 0, .int .i64 0]) lo w.heap.size w := by
  obtain ⟨a, c, F, e, ho, hn, hr, hc⟩ := own_of_its h
  obtain ⟨rfl, rfl, rfl⟩ : sa = a ∧ sn = l.length ∧ sc = c := by simpa using e
  refine ⟨F, ?_, hn, fun b hb => by have := hr b hb; omega⟩
  show OwnVec w 1 (.mk k l [] [] [] [] 0 0) _ F
  unfold OwnVec
  exact ⟨sa, sc, none, 0, none, 0, none, 0, none, 0, F, [], [], [], [], rfl, by simp, ⟨hc, Nat.le_refl _, Nat.le_refl _, Nat.le_refl _, Nat.le_refl _⟩, ho, .inl ⟨rfl, rfl⟩, .inl ⟨rfl, rfl⟩, .inl ⟨rfl, rfl⟩, .inl ⟨rfl, rfl⟩⟩
theorem small_vecOf {k : Int} {l : List It} (h : l.length ≤ 1048576) (ht : ∀ x ∈ l, x.t.size ≤ 1048576) : Small 1 (vecOf k l) := by
  show Small 1 (.mk k l [] [] [] [] 0 0)
  unfold Small
  exact ⟨h, Nat.zero_le _, Nat.zero_le _, Nat.zero_le _, Nat.zero_le _, ht, (fun _ h => by cases h), (fun _ h => by cases h), (fun _ h => by cases h), (fun _ h => by cases h)⟩
theorem small_noV : Small 1 noV := by
  show Small 1 (.mk 0 [] [] [] [] [] 0 0)
  unfold Small
  exact ⟨Nat.zero_le _, Nat.zero_le _, Nat.zero_le _, Nat.zero_le _, Nat.zero_le _, (fun _ h => by cases h), (fun _ h => by cases h), (fun _ h => by cases h), (fun _ h => by cases h), (fun _ h => by cases h)⟩
theorem fits_vecOf {k : Int} {l : List It} (hk : -9223372036854775808 ≤ k ∧ k ≤ 9223372036854775807) (h : l.length ≤ 1048576) (ht : ∀ x ∈ l, InB x) : Fits 1 (vecOf k l) := by
  show Fits 1 (.mk k l [] [] [] [] 0 0)
  unfold Fits
  refine ⟨hk, ⟨by decide, by decide⟩, ⟨by decide, by decide⟩, by unfold maxLen; omega, Nat.zero_le _, Nat.zero_le _, Nat.zero_le _, Nat.zero_le _, fun x hx => ht x hx, (fun _ h => by cases h), (fun _ h => by cases h), (fun _ h => by cases h), (fun _ h => by cases h)⟩
theorem fits_noV : Fits 1 noV := by
  show Fits 1 (.mk 0 [] [] [] [] [] 0 0)
  unfold Fits
  exact ⟨⟨by decide, by decide⟩, ⟨by decide, by decide⟩, ⟨by decide, by decide⟩, Nat.zero_le _, Nat.zero_le _, Nat.zero_le _, Nat.zero_le _, Nat.zero_le _, (fun _ h => by cases h), (fun _ h => by cases h), (fun _ h => by cases h), (fun _ h => by cases h), (fun _ h => by cases h)⟩
/-- What a loop that appends items keeps: the result's block, the vector's block behind it, the items so far. -/
structure AppL (w wr : World) (kind : Int) (l : List It) (sa : Option Addr) (sn sc : Nat) : Prop where
  res : wr.heap[w.heap.size]? = some (.cells #[.int .i64 0, .slice none 0 0, .slice none 0 0, .slice none 0 0, .slice none 0 0, .slice none 0 0, .int .i64 0, .int .i64 0] 31 (0, 0))
  vec : wr.heap[w.heap.size + 1]? = some (.cells #[.int .i64 kind, .slice sa sn sc, .slice none 0 0, .slice none 0 0, .slice none 0 0, .slice none 0 0, .int .i64 0, .int .i64 0] 31 (0, 0))
  row : wr.ownsRow (w.heap.size + 2) 45 3 (.slice sa sn sc) l.length (itCells l)
  below : Below w.heap.size w wr
theorem AppL.big {w wr : World} {kind : Int} {l : List It} {sa : Option Addr} {sn sc : Nat} (h : AppL w wr kind l sa sn sc) : w.heap.size + 1 < wr.heap.size := (Array.getElem?_eq_some_iff.1 h.vec).1
theorem AppL.keep {w wr w1 : World} {kind : Int} {l : List It} {sa : Option Addr} {sn sc : Nat} (h : AppL w wr kind l sa sn sc) (hb : Below wr.heap.size wr w1) : AppL w w1 kind l sa sn sc :=
  ⟨blk_below hb h.res, blk_below hb h.vec, ownsRow_below h.row hb, below_then h.below hb⟩
theorem AppL.heldC {w wr : World} {kind : Int} {l : List It} {sa : Option Addr} {sn sc : Nat} (h : AppL w wr kind l sa sn sc) : HeldC w wr [(w.heap.size, 31, #[.int .i64 0, .slice none 0 0, .slice none 0 0, .slice none 0 0, .slice none 0 0, .slice none 0 0, .int .i64 0, .int .i64 0]), (w.heap.size + 1, 31, #[.int .i64 kind, .slice sa sn sc, .slice none 0 0, .slice none 0 0, .slice none 0 0, .slice none 0 0, .int .i64 0, .int .i64 0])] := heldC_two h.below h.res h.vec
theorem AppL.far {w wr : World} {kind : Int} {l : List It} {sa : Option Addr} {sn sc : Nat} (h : AppL w wr kind l sa sn sc) {q : Nat × TypeId × Array Value} (hq : q ∈ [(w.heap.size, 31, #[.int .i64 0, .slice none 0 0, .slice none 0 0, .slice none 0 0, .slice none 0 0, .slice none 0 0, .int .i64 0, .int .i64 0]), (w.heap.size + 1, 31, #[.int .i64 kind, .slice sa sn sc, .slice none 0 0, .slice none 0 0, .slice none 0 0, .slice none 0 0, .int .i64 0, .int .i64 0])]) : ∀ k, (Value.slice sa sn sc).ownBlock = some k → q.1 ≠ k := by
  intro k hk e
  have h1 := (h.row.lt k hk).1
  rcases List.mem_cons.1 hq with rfl | hq
  · simp only at e; omega
  · obtain rfl := List.mem_singleton.1 hq
    simp only at e; omega
theorem AppL.start (w : World) (kind : Int) : AppL w ((w.alloc (.cells #[.int .i64 0, .slice none 0 0, .slice none 0 0, .slice none 0 0, .slice none 0 0, .slice none 0 0, .int .i64 0, .int .i64 0] 31)).alloc (.cells #[.int .i64 kind, .slice none 0 0, .slice none 0 0, .slice none 0 0, .slice none 0 0, .slice none 0 0, .int .i64 0, .int .i64 0] 31)) kind [] none 0 0 := by
  have h0 : (w.alloc (.cells #[.int .i64 0, .slice none 0 0, .slice none 0 0, .slice none 0 0, .slice none 0 0, .slice none 0 0, .int .i64 0, .int .i64 0] 31)).heap.size = w.heap.size + 1 := by simp
  refine ⟨blk_old (blk_new w _ rfl), ?_, ⟨rfl, .inl ⟨rfl, rfl⟩⟩, (below1 w _).alloc (by simp) _⟩
  have := blk_new (w.alloc (.cells #[.int .i64 0, .slice none 0 0, .slice none 0 0, .slice none 0 0, .slice none 0 0, .slice none 0 0, .int .i64 0, .int .i64 0] 31)) (.cells #[.int .i64 kind, .slice none 0 0, .slice none 0 0, .slice none 0 0, .slice none 0 0, .slice none 0 0, .int .i64 0, .int .i64 0] 31) rfl
  rwa [h0] at this
theorem AppL.next {w W : World} {kind : Int} {l : List It} {z : It} {sa sa' : Option Addr} {sn sc sn' sc' : Nat} (hK : W.heap[w.heap.size + 1]? = some (.cells (#[.int .i64 kind, .slice sa sn sc, .slice none 0 0, .slice none 0 0, .slice none 0 0, .slice none 0 0, .int .i64 0, .int .i64 0].setIfInBounds 1 (.slice sa' sn' sc')) 31 (0, 0)))
    (hO : W.ownsRow (w.heap.size + 2) 45 3 (.slice sa' sn' sc') (l ++ [z]).length (itCells (l ++ [z]))) (hB : Below w.heap.size w W)
    (hR : ∀ q ∈ [(w.heap.size, 31, #[.int .i64 0, .slice none 0 0, .slice none 0 0, .slice none 0 0, .slice none 0 0, .slice none 0 0, .int .i64 0, .int .i64 0]), (w.heap.size + 1, 31, #[.int .i64 kind, .slice sa sn sc, .slice none 0 0, .slice none 0 0, .slice none 0 0, .slice none 0 0, .int .i64 0, .int .i64 0])], q.1 ≠ w.heap.size + 1 → W.heap[q.1]? = some (.cells q.2.2 q.2.1 (0, 0))) : AppL w W kind (l ++ [z]) sa' sn' sc' :=
  ⟨hR _ (List.Mem.head _) (by simp only; omega), hK, hO, hB⟩
theorem free8 {w : World} {b : Nat} {C : Array Value} {t : TypeId} (h : w.heap[b]? = some (.cells C t (0, 0))) : w.frozen? ⟨b, 0, none⟩ = false ∧ w.frozen? ⟨b, 1, none⟩ = false ∧ w.frozen? ⟨b, 2, none⟩ = false ∧ w.frozen? ⟨b, 3, none⟩ = false ∧ w.frozen? ⟨b, 4, none⟩ = false ∧ w.frozen? ⟨b, 5, none⟩ = false ∧ w.frozen? ⟨b, 6, none⟩ = false ∧ w.frozen? ⟨b, 7, none⟩ = false :=
  ⟨freeOf h, freeOf h, freeOf h, freeOf h, freeOf h, freeOf h, freeOf h, freeOf h⟩
/-- A vector that has just been stored into the result's block. -/
theorem vec_end {fn : Func} {R : Ending → World → Prop} {act : Act} {w : World} {g : Nat} {p : Tmp} {z0 z1 z2 z3 z4 z5 z6 z7 c0 c1 c2 c3 c4 c5 c6 c7 : Value} {t : TypeId}
    (hfn : fn.results = #[.cell p 31]) (hp : act.tmps.getD p undef = .pointer (some ⟨g, 0, none⟩)) (hd : act.defers = []) (hg : w.heap[g]? = some (.cells #[z0, z1, z2, z3, z4, z5, z6, z7] t (0, 0)))
    (hR : R (.returned (.agg #[c0, c1, c2, c3, c4, c5, c6, c7])) (put8 w g 0 c0 c1 c2 c3 c4 c5 c6 c7)) :
    bodyPost Tryz.prog fn R .ret act ((((((((w.setCell ⟨g, 0, none⟩ c0).setCell ⟨g, 1, none⟩ c1).setCell ⟨g, 2, none⟩ c2).setCell ⟨g, 3, none⟩ c3).setCell ⟨g, 4, none⟩ c4).setCell ⟨g, 5, none⟩ c5).setCell ⟨g, 6, none⟩ c6).setCell ⟨g, 7, none⟩ c7) :=
  vec_ret0 hfn hp hd (put8_lit hg) hR
theorem Own.put8 {d : Nat} {V : Vec} {y : Value} {lo hi : Nat} {w : World} (h : Own d V y lo hi w) {g p : Nat} (hg : g < lo) (c0 c1 c2 c3 c4 c5 c6 c7 : Value) : Own d V y lo hi (put8 w g p c0 c1 c2 c3 c4 c5 c6 c7) := by
  obtain ⟨F, h1, h2, h3⟩ := h.out
  exact ⟨F, h1.kept _ _ _ _ (fun b hb => put8_other (by have := h3 b hb; omega)), h2, h3⟩
theorem put8_size {w : World} {g p : Nat} {c0 c1 c2 c3 c4 c5 c6 c7 : Value} : (put8 w g p c0 c1 c2 c3 c4 c5 c6 c7).heap.size = w.heap.size := by unfold put8; simp
theorem AppL.fin {w wr : World} {kind : Int} {l : List It} {sa : Option Addr} {sn sc : Nat} (h : AppL w wr kind l sa sn sc) : ResV 1 (vecOf kind l) w (.returned (.agg #[.int .i64 kind, .slice sa sn sc, .slice none 0 0, .slice none 0 0, .slice none 0 0, .slice none 0 0, .int .i64 0, .int .i64 0])) (put8 wr w.heap.size 0 (.int .i64 kind) (.slice sa sn sc) (.slice none 0 0) (.slice none 0 0) (.slice none 0 0) (.slice none 0 0) (.int .i64 0) (.int .i64 0)) := by
  have ho := own_vecOf (k := kind) (lo := w.heap.size + 2) h.row (Nat.le_refl _)
  refine ⟨_, rfl, ((ho.put8 (by omega) _ _ _ _ _ _ _ _).wide (by omega) ?_), put8_below h.below (Nat.le_refl _)⟩
  rw [put8_size]
  exact Nat.le_refl _
/-- The item of a logical value. -/
def logI (x : Int) : It := if x = 0 then ⟨0, 1, ⟨#[]⟩⟩ else if x = 1 then ⟨1, 1, ⟨#[]⟩⟩ else noI
theorem specNum2 (n : Int) (w : World) :
    Calls Tryz.prog 19 #[.int .i64 n] w fun e w' => e = .returned (.agg #[.int .i64 n, .int .i64 1, .string ⟨#[]⟩]) ∧ Below w.heap.size w w' := by
  go_enter Tryz.func19, Tryz.ntmps19
  go_wp2
  first | exact item_ret0 rfl rfl rfl (blk_new _ _ rfl) ⟨rfl, below1 w _⟩ | exact item_ret rfl rfl rfl (blk_new _ _ rfl) ⟨rfl, below_three (below1 w _) (Nat.le_refl _) _ _ _⟩
theorem heldC_cons {w v : World} {L : List (Nat × TypeId × Array Value)} {g : Nat} {t : TypeId} {C : Array Value} (h : HeldC w v L) (hb : v.heap[g]? = some (.cells C t (0, 0))) : HeldC w v ((g, t, C) :: L) :=
  ⟨h.1, fun q hq => by
    rcases List.mem_cons.1 hq with rfl | hq
    · exact hb
    · exact h.2 q hq⟩
end Go.Proofs.YtikgcogiiohahaaGreatDoor

/- Functions that return a vector and a text. -/
namespace Go.Proofs.YtikgcogiiohahaaGreatDoor
open Go.RowKit
set_option maxRecDepth 100000
set_option linter.unusedVariables false

/-- A vector that lies in the result's block as it was made, and a text. -/
theorem vec_ret0S {fn : Func} {R : Ending → World → Prop} {act : Act} {w : World} {g : Nat} {p q : Tmp} {a b c d e f h i s : Value} {t : TypeId} {fr : Nat × Nat}
    (hfn : fn.results = #[.cell p 31, .tmp q]) (hp : act.tmps.getD p undef = .pointer (some ⟨g, 0, none⟩)) (hq : act.tmps.getD q undef = s) (hd : act.defers = []) (hg : w.heap[g]? = some (.cells #[a, b, c, d, e, f, h, i] t fr))
    (hR : R (.returned (.tuple #[.agg #[a, b, c, d, e, f, h, i], s])) w) : bodyPost Tryz.prog fn R .ret act w :=
  bodyPost_ret (by
    have e1 := run_loadVar_row (P := Tryz.prog) w g t 31 #[a, b, c, d, e, f, h, i] fr _ hg Tryz.underlying31 rfl infoVec
    rw [results_cell_tmp hfn, hp, hq]
    show ((loadVar 31 ⟨g, 0, none⟩).run Tryz.prog w).andThen _ = _
    rw [e1]; rfl) hd hR
theorem vec_endS {fn : Func} {R : Ending → World → Prop} {act : Act} {w : World} {g : Nat} {p q : Tmp} {s z0 z1 z2 z3 z4 z5 z6 z7 c0 c1 c2 c3 c4 c5 c6 c7 : Value} {t : TypeId}
    (hfn : fn.results = #[.cell p 31, .tmp q]) (hp : act.tmps.getD p undef = .pointer (some ⟨g, 0, none⟩)) (hq : act.tmps.getD q undef = s) (hd : act.defers = []) (hg : w.heap[g]? = some (.cells #[z0, z1, z2, z3, z4, z5, z6, z7] t (0, 0)))
    (hR : R (.returned (.tuple #[.agg #[c0, c1, c2, c3, c4, c5, c6, c7], s])) (put8 w g 0 c0 c1 c2 c3 c4 c5 c6 c7)) :
    bodyPost Tryz.prog fn R .ret act ((((((((w.setCell ⟨g, 0, none⟩ c0).setCell ⟨g, 1, none⟩ c1).setCell ⟨g, 2, none⟩ c2).setCell ⟨g, 3, none⟩ c3).setCell ⟨g, 4, none⟩ c4).setCell ⟨g, 5, none⟩ c5).setCell ⟨g, 6, none⟩ c6).setCell ⟨g, 7, none⟩ c7) :=
  vec_ret0S hfn hp hq hd (put8_lit hg) hR
theorem ResV.withS {d : Nat} {V : Vec} {w : World} {y : Value} {w' : World} {s : ByteArray} (h : ResV d V w (.returned y) w') : ResVS d V s w (.returned (.tuple #[y, .string s])) w' := by
  obtain ⟨z, e, r⟩ := h
  cases e
  exact ⟨_, rfl, r⟩
/-- "result is too large" -/
def bigB : ByteArray := ⟨#[114, 101, 115, 117, 108, 116, 32, 105, 115, 32, 116, 111, 111, 32, 108, 97, 114, 103, 101]⟩
theorem zeroS (s : ByteArray) (w w' : World) (hb : Below w.heap.size w w') : ResVS 1 noV s w (.returned (.tuple #[.agg #[.int .i64 0, .slice none 0 0, .slice none 0 0, .slice none 0 0, .slice none 0 0, .slice none 0 0, .int .i64 0, .int .i64 0], .string s])) w' := ⟨_, rfl, own_zero _ _ _, hb⟩
section
variable {P : Program} {ops : Array Oper} {Q : Exit → Act → World → Prop} {S : World → Prop}
variable {r : List (Nat × Bool)} {a : Act} {e : List (Nat × Value)} {w : World} {i d : Nat} {g : Option (Nat × Bool)} {v : Value}
theorem run_add {x y : Operand} {t t' : TypeId} {k : IntKind} {p q z : Int} (ho : opAt ops i = some (some d, .binOp .add t x y t', g)) (hd : Nat.blt d a.tmps.size = true)
    (hw : wantE ops a e g = some true) (hx : lookO a e x = .int k p) (hy : lookO a e y = .int k q) (hz : k.wrap (p + q) = z)
    (h : RunE P ops Q S r a ((d, .int k z) :: e) w) : RunE P ops Q S ((i, true) :: r) a e w :=
  run_yield ho hd hw (fun o w' h1 _ => by
    unfold execOp; rw [h1]; simp only [hx, hy]; subst hz
    simp [eqGuard, binOp, Op.intArith, go_sem] <;> rfl) h
end
end Go.Proofs.YtikgcogiiohahaaGreatDoor

/- A list of texts copied by append: what lies in the new block. -/
namespace Go.Proofs.YtikgcogiiohahaaGreatDoor
open Go.RowKit
set_option maxRecDepth 100000
set_option linter.unusedVariables false

/-- A row of the call's own that holds the texts of l. -/
theorem own_of_row {w : World} {B : Nat} {v : Value} {l : List ByteArray} (hpos : 0 < l.length) (h : w.ownsRow B 9 1 v l.length (l.map Value.string)) :
    ∃ g c, v = .slice (some ⟨g, 0, none⟩) l.length c ∧ OwnTxs w (some ⟨g, 0, none⟩) l [g] ∧ B ≤ g ∧ g < w.heap.size ∧ l.length ≤ c := by
  obtain ⟨_, h⟩ := h
  rcases h with ⟨_, h0⟩ | ⟨g, cap, cur, rfl, hB, hg, hc, _, hs, ht⟩
  · omega
  · refine ⟨g, cap, rfl, .inr ⟨g, cur, rfl, rfl, hg, by omega, fun i hi => ?_⟩, hB, (Array.getElem?_eq_some_iff.1 hg).1, hc⟩
    have h1 : (cur.toList.take (l.length * 1))[i]? = (l.map Value.string)[i]? := by rw [ht]
    rw [List.getElem?_take_of_lt (by omega)] at h1
    rw [← Array.getElem?_toList, h1]
    unfold txtS
    simp [List.getD_eq_getElem?_getD, hi]
theorem news_cells {w : World} {lo hi b off : Nat} {l : List ByteArray} (h : TextsAt lo hi w (some ⟨b, off, none⟩) l) : ∀ j u, (l.map Value.string)[j]? = some u → w.cell? ((⟨b, off, none⟩ : Addr).add j) = some u := by
  intro j u hj
  rw [List.getElem?_map] at hj
  obtain ⟨s, hs, rfl⟩ := Option.map_eq_some_iff.1 hj
  obtain ⟨b', off', e, _, _, c⟩ := h j s hs
  simp only [Option.some.injEq, Addr.mk.injEq, and_true] at e
  obtain ⟨rfl, rfl⟩ := e
  have ea : (⟨b, off, none⟩ : Addr).add j = ⟨b, off + j, none⟩ := by
    unfold Addr.add; split
    · rename_i h; subst h; rfl
    · rfl
  rw [ea]; exact c
theorem texts_some {w : World} {lo hi : Nat} {a : Option Addr} {l : List ByteArray} (h : TextsAt lo hi w a l) (hpos : 0 < l.length) : ∃ b off, a = some ⟨b, off, none⟩ := by
  obtain ⟨b, off, e, _⟩ := h 0 _ (List.getElem?_eq_getElem hpos)
  exact ⟨b, off, e⟩
end Go.Proofs.YtikgcogiiohahaaGreatDoor

/- Vectors of items alone as results of laws: they are small, they fit, and their marks are few; ints that come in, with their bounds. -/
namespace Go.Proofs.YtikgcogiiohahaaGreatDoor
open Go.RowKit
set_option maxRecDepth 100000
set_option linter.unusedVariables false

theorem mem_itF {g : Nat → It} {n : Nat} {x : It} (h : x ∈ itF g n) : ∃ i, i < n ∧ x = g i := by
  obtain ⟨i, hi, rfl⟩ := List.mem_map.1 h
  exact ⟨i, List.mem_range.1 hi, rfl⟩
theorem cnt_vecOf (k : Int) (l : List It) : cntM 1 (vecOf k l) = 3 * l.length := by
  show cntM 1 (.mk k l [] [] [] [] 0 0) = _
  rw [cntM_eq]
  show 3 * l.length + sumN _ 0 + 0 + 0 + 0 = _
  simp [sumN]
theorem cnt_noV : cntM 1 noV = 0 := by
  show cntM 1 (.mk 0 [] [] [] [] [] 0 0) = _
  rw [cntM_eq]
  show 3 * 0 + sumN _ 0 + 0 + 0 + 0 = _
  simp [sumN]
theorem inB_small {n d : Int} (h : (-9223372036854775808 ≤ n ∧ n ≤ 9223372036854775807) ∧ (-9223372036854775808 ≤ d ∧ d ≤ 9223372036854775807)) : InB ⟨n, d, ⟨#[]⟩⟩ := ⟨h.1, h.2, Nat.zero_le _⟩
theorem inB_noI : InB noI := inB_small (by decide)
end Go.Proofs.YtikgcogiiohahaaGreatDoor

/- What a law needs of a result that is a vector of items alone, or the zero value. -/
namespace Go.Proofs.YtikgcogiiohahaaGreatDoor
open Go.RowKit
set_option maxRecDepth 100000
set_option linter.unusedVariables false

/-- The zero value, or a vector of items alone that fit. -/
def PlainV (V : Vec) : Prop := V = noV ∨ ∃ k l, V = vecOf k l ∧ (-9223372036854775808 ≤ k ∧ k ≤ 9223372036854775807) ∧ l.length ≤ 40 ∧ ∀ x ∈ l, InB x ∧ x.t.size ≤ 1048576
theorem PlainV.small {V : Vec} (h : PlainV V) : Small 1 V := by
  rcases h with rfl | ⟨k, l, rfl, hk, hl, hx⟩
  · exact small_noV
  · exact small_vecOf (by omega) (fun x h => (hx x h).2)
theorem PlainV.fits {V : Vec} (h : PlainV V) : Fits 1 V := by
  rcases h with rfl | ⟨k, l, rfl, hk, hl, hx⟩
  · exact fits_noV
  · exact fits_vecOf hk (by omega) (fun x h => (hx x h).1)
theorem PlainV.cnt {V : Vec} (h : PlainV V) : 1 + cntM 1 V ≤ 8000000 := by
  rcases h with rfl | ⟨k, l, rfl, hk, hl, hx⟩
  · rw [cnt_noV]; omega
  · rw [cnt_vecOf]; omega
end Go.Proofs.YtikgcogiiohahaaGreatDoor

/- Vectors with names that a call builds; texts copied by append, whatever their number. -/
namespace Go.Proofs.YtikgcogiiohahaaGreatDoor
open Go.RowKit
set_option maxRecDepth 100000
set_option linter.unusedVariables false

/-- A vector of items and names. -/
def mkN (k : Int) (l : List It) (names : List ByteArray) : Vec := .mk k l [] names [] [] 0 0
/-- An append of nothing onto nothing. -/
theorem run_app0 {w : World} {dst : Value} {ty : TypeId} (hd : dst = .slice none 0 0 ∨ ∃ g, dst = .slice (some ⟨g, 0, none⟩) 0 0) (ad : Option Addr) (c : Nat) :
    (Builtin.append_ #[24, 24] ty #[dst, .slice ad 0 c]).run Tryz.prog w = .ok dst w := by
  obtain ⟨i0, hi0, hz0, hz1, hz2⟩ := info_parts infoStr
  rcases ad with _ | ad <;> rcases hd with rfl | ⟨g, rfl⟩ <;> simp [Builtin.append_, run_underlying Tryz.underlying24, sizeOf, typeInfo, hi0, Builtin.lenOf, Builtin.firstCells, loadCells, loadCellsFrom, storeCells]
theorem wpList_app0 {w : World} {ops : Array Oper} {rest : List Oper} {o : Oper} {a : Act} {Q : Exit → Act → World → Prop} (hgd : o.guard = none) (s x : Operand)
    (ho : o.op = .call { callee := .builtin .append, args := #[s, x], argTypes := #[24, 24] }) (dst : Value) (hs : a.eval s = dst) (hd : dst = .slice none 0 0 ∨ ∃ g, dst = .slice (some ⟨g, 0, none⟩) 0 0) (ad : Option Addr) (c : Nat) (hx : a.eval x = .slice ad 0 c)
    (h : wpList Tryz.prog ops Q rest (a.put o.dst dst) w) : wpList Tryz.prog ops Q (o :: rest) a w := by
  refine wpList_plain hgd fun K hK => ?_
  unfold Oper.wp
  simp [execOp, ho, resolve, invoke, builtin, hs, hx, run_app0 hd ad c, Result.andThen]
  exact hK _ _ h
/-- What a copy of texts is. -/
def CopyTx (base : Nat) (l : List ByteArray) (v : Value) (w : World) : Prop := ∃ sa sc F, v = .slice sa l.length sc ∧ OwnTxs w sa l F ∧ F.Nodup ∧ (∀ b ∈ F, base ≤ b ∧ b < w.heap.size) ∧ l.length ≤ sc
theorem wpList_copyTexts {w : World} {ops : Array Oper} {rest : List Oper} {o : Oper} {a : Act} {Q : Exit → Act → World → Prop} (hgd : o.guard = none) (s x : Operand)
    (ho : o.op = .call { callee := .builtin .append, args := #[s, x], argTypes := #[24, 24] }) (base : Nat) (v0 : Value) (hs : a.eval s = v0)
    (hv0 : v0 = .slice none 0 0 ∨ ∃ g, base ≤ g ∧ v0 = .slice (some ⟨g, 0, none⟩) 0 0 ∧ w.heap[g]? = some (.cells #[] 9 (0, 0)))
    (ad : Option Addr) (c : Nat) (l : List ByteArray) (lo hi : Nat) (hx : a.eval x = .slice ad l.length c) (hT : TextsAt lo hi w ad l) (hn : l.length ≤ 1048576) (hbase : base ≤ w.heap.size)
    (h : ∀ v' w', CopyTx base l v' w' → Below base w w' → wpList Tryz.prog ops Q rest (a.put o.dst v') w') : wpList Tryz.prog ops Q (o :: rest) a w := by
  by_cases hpos : 0 < l.length
  · obtain ⟨b, off, rfl⟩ := texts_some hT hpos
    obtain ⟨i0, hi0, hz0, hz1, hz2⟩ := info_parts infoStr
    have hown : w.ownsRow base 9 1 v0 0 [] := by
      rcases hv0 with rfl | ⟨g, hg, rfl, hb⟩
      · exact ⟨rfl, .inl ⟨rfl, rfl⟩⟩
      · exact ⟨rfl, .inr ⟨g, 0, #[], rfl, hg, hb, Nat.le_refl _, Nat.zero_le _, rfl, rfl⟩⟩
    refine wpList_append_own w hgd s x 24 ho base 9 i0 (.string ⟨#[]⟩) 1 16 Tryz.underlying24 hi0 hz0 hz1 hz2 rfl (by decide) v0 0 [] hs hown ⟨b, off, none⟩ l.length c (l.map Value.string) hx (by simp) (news_cells hT) (fun u hu => by obtain ⟨s, _, rfl⟩ := List.mem_map.1 hu; rfl) (by unfold maxLen; omega) (by omega) hbase (fun v' w' h1 h2 _ => ?_)
    have h1' : w'.ownsRow base 9 1 v' l.length (l.map Value.string) := by simpa using h1
    obtain ⟨g, c', rfl, ho, hB, hlt, hc⟩ := own_of_row hpos h1'
    refine h _ _ ⟨_, _, [g], rfl, ho, by simp, fun b hb => by obtain rfl := List.mem_singleton.1 hb; exact ⟨hB, hlt⟩, hc⟩ ((Below.refl base w).grown h2 hbase (fun r hr => ?_))
    exact (hown.lt r hr).1
  · obtain rfl : l = [] := List.eq_nil_of_length_eq_zero (by omega)
    refine wpList_app0 hgd s x ho v0 hs (hv0.imp id (fun ⟨g, _, e, _⟩ => ⟨g, e⟩)) ad c hx (h _ _ ?_ (Below.refl _ _))
    rcases hv0 with rfl | ⟨g, _, rfl, _⟩
    · exact ⟨none, 0, [], rfl, .inl ⟨rfl, rfl⟩, List.nodup_nil, (fun _ h => by cases h), Nat.le_refl _⟩
    · exact ⟨some ⟨g, 0, none⟩, 0, [], rfl, .inl ⟨rfl, rfl⟩, List.nodup_nil, (fun _ h => by cases h), Nat.le_refl _⟩
set_option maxHeartbeats 1000000 in
theorem implCopyAny (l : List ByteArray) (a : Option Addr) (c lo hi : Nat) (w : World) (h : TextsAt lo hi w a l) (hn : l.length ≤ 1048576) :
    Calls Tryz.prog 55 #[.slice a l.length c] w fun e w' => ∃ v, e = .returned v ∧ CopyTx w.heap.size l v w' ∧ Below w.heap.size w w' := by
  have HT := Lib.hid h
  clear h
  go_enter Tryz.func55, Tryz.ntmps55
  go_wp2_with (at_builtin; refine wpList_copyTexts rfl _ _ rfl w.heap.size _ rfl (.inl rfl) a c l lo hi rfl HT.out hn (Nat.le_refl _) ?_)
  intro v' w' hc hb
  have HC := Lib.hid hc
  have HB := Lib.hid hb
  obtain ⟨sa, sc, F, rfl, _⟩ := hc
  clear hb
  go_wp2
  go_ret
  exact ⟨_, rfl, HC.out, HB.out⟩
/-- What a loop that appends items to a vector with names keeps. -/
structure AppN (w wr : World) (r b : Nat) (kind : Int) (l : List It) (sa : Option Addr) (sn sc : Nat) (names : List ByteArray) (na : Option Addr) (nc : Nat) (F : List Nat) : Prop where
  res : wr.heap[r]? = some (.cells #[.int .i64 0, .slice none 0 0, .slice none 0 0, .slice none 0 0, .slice none 0 0, .slice none 0 0, .int .i64 0, .int .i64 0] 31 (0, 0))
  vec : wr.heap[b]? = some (.cells #[.int .i64 kind, .slice sa sn sc, .slice none 0 0, .slice na names.length nc, .slice none 0 0, .slice none 0 0, .int .i64 0, .int .i64 0] 31 (0, 0))
  row : wr.ownsRow (b + 1) 45 3 (.slice sa sn sc) l.length (itCells l)
  nms : OwnTxs wr na names F
  cap : names.length ≤ nc
  nd : F.Nodup
  rng : ∀ g ∈ F, w.heap.size ≤ g ∧ g < b ∧ g ≠ r
  below : Below w.heap.size w wr
  o1 : w.heap.size ≤ r
  o2 : r < b
theorem AppN.big {w wr : World} {r b : Nat} {kind : Int} {l : List It} {sa : Option Addr} {sn sc : Nat} {names : List ByteArray} {na : Option Addr} {nc : Nat} {F : List Nat} (h : AppN w wr r b kind l sa sn sc names na nc F) : b < wr.heap.size := (Array.getElem?_eq_some_iff.1 h.vec).1
theorem AppN.keep {w wr w1 : World} {r b : Nat} {kind : Int} {l : List It} {sa : Option Addr} {sn sc : Nat} {names : List ByteArray} {na : Option Addr} {nc : Nat} {F : List Nat} (h : AppN w wr r b kind l sa sn sc names na nc F) (hb : Below wr.heap.size wr w1) : AppN w w1 r b kind l sa sn sc names na nc F :=
  ⟨blk_below hb h.res, blk_below hb h.vec, ownsRow_below h.row hb, h.nms.kept (fun g hg => hb.block g (by have := h.rng g hg; have := h.big; omega)), h.cap, h.nd, h.rng, below_then h.below hb, h.o1, h.o2⟩
theorem AppN.heldC {w wr : World} {r b : Nat} {kind : Int} {l : List It} {sa : Option Addr} {sn sc : Nat} {names : List ByteArray} {na : Option Addr} {nc : Nat} {F : List Nat} (h : AppN w wr r b kind l sa sn sc names na nc F) : HeldC w wr [(r, 31, #[.int .i64 0, .slice none 0 0, .slice none 0 0, .slice none 0 0, .slice none 0 0, .slice none 0 0, .int .i64 0, .int .i64 0]), (b, 31, #[.int .i64 kind, .slice sa sn sc, .slice none 0 0, .slice na names.length nc, .slice none 0 0, .slice none 0 0, .int .i64 0, .int .i64 0])] := heldC_two h.below h.res h.vec
theorem AppN.far {w wr : World} {r b : Nat} {kind : Int} {l : List It} {sa : Option Addr} {sn sc : Nat} {names : List ByteArray} {na : Option Addr} {nc : Nat} {F : List Nat} (h : AppN w wr r b kind l sa sn sc names na nc F) {C : Array Value} {q : Nat × TypeId × Array Value} (hq : q ∈ (wr.heap.size, 45, C) :: [(r, 31, #[.int .i64 0, .slice none 0 0, .slice none 0 0, .slice none 0 0, .slice none 0 0, .slice none 0 0, .int .i64 0, .int .i64 0]), (b, 31, #[.int .i64 kind, .slice sa sn sc, .slice none 0 0, .slice na names.length nc, .slice none 0 0, .slice none 0 0, .int .i64 0, .int .i64 0])]) : ∀ k, (Value.slice sa sn sc).ownBlock = some k → q.1 ≠ k := by
  intro k hk e
  have h1 := h.row.lt k hk
  have h2 := h.o2
  rcases List.mem_cons.1 hq with rfl | hq
  · simp only at e; omega
  rcases List.mem_cons.1 hq with rfl | hq
  · simp only at e; omega
  · obtain rfl := List.mem_singleton.1 hq
    simp only at e; omega
theorem AppN.next {w wr W : World} {r b : Nat} {kind : Int} {l : List It} {z : It} {sa sa' : Option Addr} {sn sc sn' sc' : Nat} {names : List ByteArray} {na : Option Addr} {nc : Nat} {F : List Nat} (h : AppN w wr r b kind l sa sn sc names na nc F)
    (hK : W.heap[b]? = some (.cells (#[.int .i64 kind, .slice sa sn sc, .slice none 0 0, .slice na names.length nc, .slice none 0 0, .slice none 0 0, .int .i64 0, .int .i64 0].setIfInBounds 1 (.slice sa' sn' sc')) 31 (0, 0)))
    (hO : W.ownsRow (b + 1) 45 3 (.slice sa' sn' sc') (l ++ [z]).length (itCells (l ++ [z]))) (hB : Below w.heap.size w W)
    (hR : W.heap[r]? = some (.cells #[.int .i64 0, .slice none 0 0, .slice none 0 0, .slice none 0 0, .slice none 0 0, .slice none 0 0, .int .i64 0, .int .i64 0] 31 (0, 0))) (hF : ∀ g ∈ F, W.heap[g]? = wr.heap[g]?) : AppN w W r b kind (l ++ [z]) sa' sn' sc' names na nc F :=
  ⟨hR, hK, hO, h.nms.kept hF, h.cap, h.nd, h.rng, hB, h.o1, h.o2⟩
/-- The vector itself, where the function ends. -/
theorem AppN.own {w wr : World} {r b : Nat} {kind : Int} {l : List It} {sa : Option Addr} {sn sc : Nat} {names : List ByteArray} {na : Option Addr} {nc : Nat} {F : List Nat} (h : AppN w wr r b kind l sa sn sc names na nc F) : ∃ G, OwnVec wr 1 (mkN kind l names) (.agg #[.int .i64 kind, .slice sa sn sc, .slice none 0 0, .slice na names.length nc, .slice none 0 0, .slice none 0 0, .int .i64 0, .int .i64 0]) G ∧ G.Nodup ∧ ∀ g ∈ G, w.heap.size ≤ g ∧ g < wr.heap.size ∧ g ≠ r := by
  obtain ⟨a, c, Fi, e, ho, hn, hr, hc⟩ := own_of_its h.row
  obtain ⟨rfl, rfl, rfl⟩ : sa = a ∧ sn = l.length ∧ sc = c := by simpa using e
  refine ⟨Fi ++ F, ?_, ?_, ?_⟩
  · show OwnVec wr 1 (.mk kind l [] names [] [] 0 0) _ _
    unfold OwnVec
    exact ⟨sa, sc, none, 0, na, nc, none, 0, none, 0, Fi, [], F, [], [], rfl, by simp, ⟨hc, Nat.le_refl _, h.cap, Nat.le_refl _, Nat.le_refl _⟩, ho, h.nms, .inl ⟨rfl, rfl⟩, .inl ⟨rfl, rfl⟩, .inl ⟨rfl, rfl⟩⟩
  · rw [List.nodup_append]
    exact ⟨hn, h.nd, fun x hx y hy e => by have := hr x hx; have := h.rng y hy; omega⟩
  · intro g hg
    have h1 := h.o1; have h2 := h.o2; have h3 := h.big
    rcases List.mem_append.1 hg with hg | hg
    · have := hr g hg; omega
    · have := h.rng g hg; omega
theorem AppN.fin {w wr : World} {r b : Nat} {kind : Int} {l : List It} {sa : Option Addr} {sn sc : Nat} {names : List ByteArray} {na : Option Addr} {nc : Nat} {F : List Nat} (h : AppN w wr r b kind l sa sn sc names na nc F) : ResV 1 (mkN kind l names) w (.returned (.agg #[.int .i64 kind, .slice sa sn sc, .slice none 0 0, .slice na names.length nc, .slice none 0 0, .slice none 0 0, .int .i64 0, .int .i64 0])) (put8 wr r 0 (.int .i64 kind) (.slice sa sn sc) (.slice none 0 0) (.slice na names.length nc) (.slice none 0 0) (.slice none 0 0) (.int .i64 0) (.int .i64 0)) := by
  obtain ⟨G, ho, hn, hr⟩ := h.own
  exact ⟨_, rfl, ⟨G, ho.kept _ _ _ _ (fun g hg => put8_other (hr g hg).2.2), hn, fun g hg => by rw [put8_size]; have := hr g hg; omega⟩, put8_below h.below h.o1⟩
theorem small_mkN {k : Int} {l : List It} {names : List ByteArray} (h : l.length ≤ 1048576) (ht : ∀ x ∈ l, x.t.size ≤ 1048576) (hn : names.length ≤ 1048576) (hs : ∀ s ∈ names, s.size ≤ 1048576) : Small 1 (mkN k l names) := by
  show Small 1 (.mk k l [] names [] [] 0 0)
  unfold Small
  exact ⟨h, Nat.zero_le _, hn, Nat.zero_le _, Nat.zero_le _, ht, hs, (fun _ h => by cases h), (fun _ h => by cases h), (fun _ h => by cases h)⟩
theorem fits_mkN {k : Int} {l : List It} {names : List ByteArray} (hk : -9223372036854775808 ≤ k ∧ k ≤ 9223372036854775807) (h : l.length ≤ 1048576) (ht : ∀ x ∈ l, InB x) (hn : names.length ≤ 1048576) (hs : ∀ s ∈ names, s.size ≤ 1048576) : Fits 1 (mkN k l names) := by
  show Fits 1 (.mk k l [] names [] [] 0 0)
  unfold Fits
  refine ⟨hk, ⟨by decide, by decide⟩, ⟨by decide, by decide⟩, by unfold maxLen; omega, Nat.zero_le _, by unfold maxLen; omega, Nat.zero_le _, Nat.zero_le _, fun x hx => ht x hx, fun s hx => by have := hs s hx; unfold maxLen; omega, (fun _ h => by cases h), (fun _ h => by cases h), (fun _ h => by cases h)⟩
theorem cnt_mkN (k : Int) (l : List It) (names : List ByteArray) : cntM 1 (mkN k l names) = 3 * l.length + names.length := by
  show cntM 1 (.mk k l [] names [] [] 0 0) = _
  rw [cntM_eq]
  show 3 * l.length + sumN _ 0 + names.length + 0 + 0 = _
  simp [sumN]
end Go.Proofs.YtikgcogiiohahaaGreatDoor

/- The end of an appending region, with all that it leaves alone. -/
namespace Go.Proofs.YtikgcogiiohahaaGreatDoor
open Go.RowKit
set_option maxRecDepth 100000
set_option linter.unusedVariables false

/-- The same, and every other block is as it was. -/
theorem tail_item2 {ops : Array Oper} {Q : Exit → Act → World → Prop} {a : Act} {e : List (Nat × Value)} {w0 w1 : World} {L : List (Nat × TypeId × Array Value)} {i1 i2 i3 i4 d1 d2 d4 b j base : Nat} {x s p : Operand} {v0 c : Value} {C : Array Value} {tt : TypeId} (z : It) {l : List It}
    (ho1 : opAt ops i1 = some (some d1, .buildSlice 28 1 #[(0, x)], none)) (hd1 : Nat.blt d1 a.tmps.size = true) (hx : lookO a e x = .agg #[.int .i64 z.n, .int .i64 z.d, .string z.t])
    (ho2 : opAt ops i2 = some (some d2, .call { callee := .builtin .append, args := [s, .tmp d1].toArray, argTypes := [28, 28].toArray }, none)) (hd2 : Nat.blt d2 a.tmps.size = true) (hs : ∀ u, lookO a ((d1, u) :: e) s = v0)
    (ho4 : opAt ops i4 = some (some d4, .fieldAddr 31 p j, none)) (hd4 : Nat.blt d4 a.tmps.size = true) (hf : Nat.blt j 8 = true) (hp : ∀ u u', lookO a ((d2, u') :: (d1, u) :: e) p = .pointer (some ⟨b, 0, none⟩))
    (ho3 : opAt ops i3 = some (none, .store 28 (.tmp d4) (.tmp d2), none)) (hl : lastK ops i3 = true) (hne : Nat.beq d4 d2 = false)
    (H : HeldC w0 w1 L) (hown : w1.ownsRow base 45 3 v0 l.length (itCells l)) (hn : l.length ≤ 1048576) (hbase : base ≤ w1.heap.size) (hw0 : w0.heap.size ≤ base) (m : (b, tt, C) ∈ L) (hj : C[j]? = some c) (hb : b < base) (hb0 : w0.heap.size ≤ b)
    (hL : ∀ q ∈ L, ∀ k, v0.ownBlock = some k → q.1 ≠ k)
    (h : ∀ v' W, (∃ sa n c, v' = .slice sa n c) → W.heap[b]? = some (.cells (C.setIfInBounds j v') tt (0, 0)) → W.ownsRow base 45 3 v' (l ++ [z]).length (itCells (l ++ [z])) → Below w0.heap.size w0 W → w1.heap.size ≤ W.heap.size →
      (∀ q ∈ L, q.1 ≠ b → W.heap[q.1]? = some (.cells q.2.2 q.2.1 (0, 0))) → (∀ g, g < w1.heap.size → g ≠ b → (∀ k, v0.ownBlock = some k → g ≠ k) → W.heap[g]? = w1.heap[g]?) → Q .normal (putAll a ((d4, .pointer (some ⟨b, j, none⟩)) :: (d2, v') :: (d1, .slice (some ⟨w1.heap.size, 0, none⟩) 1 1) :: e)) W) :
    RunE Tryz.prog ops Q (fun w' => HeldC w0 w' L) [(i1, false), (i2, false), (i4, true), (i3, false)] a e w1 := by
  refine run_build_item z ho1 hd1 rfl hx (fun W1 hW1 => ?_)
  have H1 : HeldC w0 W1 L := hW1 ▸ heldC_alloc H _
  have hK : W1.heap[w1.heap.size]? = some (.cells #[.int .i64 z.n, .int .i64 z.d, .string z.t] 45 (0, 0)) := hW1 ▸ blk_new w1 _ rfl
  have hO : W1.ownsRow base 45 3 v0 l.length (itCells l) := hW1 ▸ ownsRow_below hown (below1 w1 _)
  have hS1 : w1.heap.size ≤ W1.heap.size := hW1 ▸ (below1 w1 _).size
  refine ⟨H1, run_app_item (b := w1.heap.size) z ho2 hd2 rfl (hs _) (look_new _ _) hO hK hn (by omega) (fun v' W2 hO2 hg2 => ?_)⟩
  have H2 : HeldC w0 W2 L := heldC_grown H1 hg2 (fun k hk => ⟨by have := (hO.lt k hk).1; omega, fun q hq => hL q hq k hk⟩)
  have hv : ∃ sa n c, v' = .slice sa n c := by
    obtain ⟨_, h | ⟨g, cap, cur, e, _⟩⟩ := hO2
    · exact ⟨_, _, _, h.1⟩
    · exact ⟨_, _, _, e⟩
  obtain ⟨sa, n, c', rfl⟩ := hv
  refine ⟨H2, runC_partV hf ho4 hd4 rfl (hp _ _) (run_last_field hl ho3 rfl store_its (look_new _ _) (look_next hne) (heldC_at H2 m) hj (fun W3 hW3 => run_done (h _ W3 ⟨_, _, _, rfl⟩ ?_ ?_ ?_ ?_ ?_ ?_)))⟩
  · subst hW3; exact Joins.block_setCell (heldC_at H2 m) _
  · subst hW3; exact ownsRow_set hO2 hb
  · subst hW3; exact H2.1.setCell (p := ⟨b, j, none⟩) hb0 _
  · subst hW3; have := hg2.size; simp; omega
  · intro q hq hne; subst hW3; rw [Below.heap_setCell _ _ _ _ hne]; exact H2.2 q hq
  · intro g hg hne hk; subst hW3; rw [Below.heap_setCell _ _ _ _ hne, hg2.block g (by omega) (fun e => hk g e.symm rfl), hW1]; exact (below1 w1 _).block g hg
end Go.Proofs.YtikgcogiiohahaaGreatDoor

/- Logical values of vectors. -/
namespace Go.Proofs.YtikgcogiiohahaaGreatDoor
open Go.RowKit
set_option maxRecDepth 100000
set_option linter.unusedVariables false

/-- "invalid vector", "non-logical argument" -/
def badB : ByteArray := ⟨#[105, 110, 118, 97, 108, 105, 100, 32, 118, 101, 99, 116, 111, 114]⟩
def nonLogB : ByteArray := ⟨#[110, 111, 110, 45, 108, 111, 103, 105, 99, 97, 108, 32, 97, 114, 103, 117, 109, 101, 110, 116]⟩
/-- Does a vector count as numbers? -/
def Counts (v : Vec) : Prop := match v with | .mk k _ _ _ _ levels _ _ => k ≤ 2 ∧ levels.length = 0
def truthI (x : It) : Int := if x.d = 0 then 2 else if x.n = 0 then 0 else 1
/-- An element of a vector that counts as numbers. -/
structure NumIt (x : It) : Prop where
  t : x.t = ⟨#[]⟩
  n0 : -999999999 ≤ x.n
  n1 : x.n ≤ 999999999
  d0 : 0 ≤ x.d
  d1 : x.d ≤ 999999999
  z : x.d = 0 → x = noI
end Go.Proofs.YtikgcogiiohahaaGreatDoor

/- How the reference makes a number. -/
namespace Go.Proofs.YtikgcogiiohahaaGreatDoor
set_option maxRecDepth 100000
open Go.RowKit
set_option linter.unusedVariables false

end Go.Proofs.YtikgcogiiohahaaGreatDoor

/- How the program makes a number. -/
namespace Go.Proofs.YtikgcogiiohahaaGreatDoor
set_option maxRecDepth 100000
open Go.RowKit
set_option linter.unusedVariables false

set_option maxHeartbeats 1000000 in
theorem implMake (n d : Int) (w : World) (h : -9223372036854775808 ≤ n ∧ n ≤ 9223372036854775807) (h' : -9223372036854775808 ≤ d ∧ d ≤ 9223372036854775807) :
    Calls Tryz.prog 46 #[.int .i64 n, .int .i64 d] w fun e w' => e = .returned (.agg #[.int .i64 (mkI n d).n, .int .i64 (mkI n d).d, .string ⟨#[]⟩]) ∧ Below w.heap.size w w' := by
  by_cases hd : d = 0
  · subst hd
    have X := Lib.hid (mkI_no (n := n) (d := 0) (by unfold okR; simp))
    go_enter Tryz.func46, Tryz.ntmps46
    go_wp2
    rw [X.out]
    exact bodyPost_ret (v := .agg #[.int .i64 0, .int .i64 0, .string ⟨#[]⟩]) (by simp [results, Tryz.results46, go_sem]) rfl ⟨rfl, (Below.refl _ _).alloc (Nat.le_refl _) _⟩
  · by_cases hn : n < -4000000000000000000 ∨ 4000000000000000000 < n
    · have X := Lib.hid (mkI_no (n := n) (d := d) (by unfold okR; omega))
      have H := Lib.hid hn
      have D := Lib.hid hd
      have d0 : (d == 0) = false := by simp [hd]
      clear hn hd
      go_enter Tryz.func46, Tryz.ntmps46
      go_wp2_with fail
      refine (isOpNo n _ H.out).mono ?_
      rintro e w' ⟨rfl, rfl⟩
      go_wp2
      rw [X.out]
      exact bodyPost_ret (v := .agg #[.int .i64 0, .int .i64 0, .string ⟨#[]⟩]) (by simp [results, Tryz.results46, go_sem]) rfl ⟨rfl, (Below.refl _ _).alloc (Nat.le_refl _) _⟩
    · by_cases hd2 : d < -4000000000000000000 ∨ 4000000000000000000 < d
      · have X := Lib.hid (mkI_no (n := n) (d := d) (by unfold okR; omega))
        have H := Lib.hid hd2
        have N := Lib.hid hn
        have d0 : (d == 0) = false := by simp [hd]
        clear hn hd hd2
        go_enter Tryz.func46, Tryz.ntmps46
        go_wp2_with fail
        refine (isOpYes n _ (by have := N.out; omega) (by have := N.out; omega)).mono ?_
        rintro e w' ⟨rfl, rfl⟩
        go_wp2_with fail
        refine (isOpNo d _ H.out).mono ?_
        rintro e w' ⟨rfl, rfl⟩
        go_wp2
        rw [X.out]
        exact bodyPost_ret (v := .agg #[.int .i64 0, .int .i64 0, .string ⟨#[]⟩]) (by simp [results, Tryz.results46, go_sem]) rfl ⟨rfl, (Below.refl _ _).alloc (Nat.le_refl _) _⟩
      · have a1 : -4000000000000000000 ≤ n := by omega
        have a2 : n ≤ 4000000000000000000 := by omega
        have b1 : -4000000000000000000 ≤ d := by omega
        have b2 : d ≤ 4000000000000000000 := by omega
        have d0 : (d == 0) = false := by simp [hd]
        obtain ⟨g, p, q, hg, g0, g1, hp, hq, ⟨k1, k2⟩, ⟨k3, k4⟩, hyes, hno, hq1, _⟩ := make_facts (n := n) (d := d) (by unfold okR; omega)
        have Y := Lib.hid hyes
        have Z := Lib.hid hno
        have C := Lib.hid (hg ▸ implGcd n d)
        have D := Lib.hid hd
        clear hn hd hd2 hg hyes hno h h'
        by_cases hs : d < 0
        · rw [if_pos hs, Int.tdiv_neg] at hp hq
          have P := Lib.hid hp
          have Q := Lib.hid hq
          clear hp hq
          go_enter Tryz.func46, Tryz.ntmps46
          go_wp2_with fail
          refine (isOpYes n _ a1 a2).mono ?_
          rintro e w' ⟨rfl, rfl⟩
          go_wp2_with fail
          refine (isOpYes d _ b1 b2).mono ?_
          rintro e w' ⟨rfl, rfl⟩
          go_wp2_with fail
          refine (C.out _ a1 a2 b1 b2).mono ?_
          rintro e w' ⟨rfl, m, rfl⟩
          go_wp2
          go_region
          rw [P.out, Q.out]
          cases hb : isN ⟨p, q, ⟨#[]⟩⟩
          · have HB := Lib.hid hb
            have M := Lib.hid (Z.out hb)
            clear hb
            go_wp2_with fail
            refine (implNumNo p q ⟨#[]⟩ _ (by decide) HB.out).mono ?_
            rintro e w1 ⟨rfl, hb1⟩
            obtain ⟨hc, hf⟩ := bcell hb1
            have B1 := Lib.hid hb1
            have B2 := Lib.hid ((below_drewN' ((Below.refl w.heap.size w).alloc (Nat.le_refl _) _) _).alloc (by simp) _ |>.trans (hb1.mono (by simp; omega)))
            clear hb1
            go_wp2
            rw [M.out]
            exact item_ret rfl rfl rfl (blk_below B1.out (blk_old (blk_drewN (blk_new w _ rfl)))) ⟨rfl, below_three (B2.out) (Nat.le_refl _) _ _ _⟩
          · have HB := Lib.hid hb
            have M := Lib.hid (Y.out hb)
            clear hb
            go_wp2_with fail
            refine (implNumYes p q ⟨#[]⟩ _ (by decide) HB.out).mono ?_
            rintro e w1 ⟨rfl, hb1⟩
            obtain ⟨hc, hf⟩ := bcell hb1
            have B1 := Lib.hid hb1
            have B2 := Lib.hid ((below_drewN' ((Below.refl w.heap.size w).alloc (Nat.le_refl _) _) _).alloc (by simp) _ |>.trans (hb1.mono (by simp; omega)))
            clear hb1
            go_wp2
            rw [M.out]
            exact item_ret rfl rfl rfl (blk_below B1.out (blk_old (blk_drewN (blk_new w _ rfl)))) ⟨rfl, below_three (B2.out) (Nat.le_refl _) _ _ _⟩
        · rw [if_neg hs] at hp hq
          have P := Lib.hid hp
          have Q := Lib.hid hq
          clear hp hq
          go_enter Tryz.func46, Tryz.ntmps46
          go_wp2_with fail
          refine (isOpYes n _ a1 a2).mono ?_
          rintro e w' ⟨rfl, rfl⟩
          go_wp2_with fail
          refine (isOpYes d _ b1 b2).mono ?_
          rintro e w' ⟨rfl, rfl⟩
          go_wp2_with fail
          refine (C.out _ a1 a2 b1 b2).mono ?_
          rintro e w' ⟨rfl, m, rfl⟩
          go_wp2
          go_region
          rw [P.out, Q.out]
          cases hb : isN ⟨p, q, ⟨#[]⟩⟩
          · have HB := Lib.hid hb
            have M := Lib.hid (Z.out hb)
            clear hb
            go_wp2_with fail
            refine (implNumNo p q ⟨#[]⟩ _ (by decide) HB.out).mono ?_
            rintro e w1 ⟨rfl, hb1⟩
            obtain ⟨hc, hf⟩ := bcell hb1
            have B1 := Lib.hid hb1
            have B2 := Lib.hid ((below_drewN' ((Below.refl w.heap.size w).alloc (Nat.le_refl _) _) _).alloc (by simp) _ |>.trans (hb1.mono (by simp; omega)))
            clear hb1
            go_wp2
            rw [M.out]
            exact item_ret rfl rfl rfl (blk_below B1.out (blk_old (blk_drewN (blk_new w _ rfl)))) ⟨rfl, below_three (B2.out) (Nat.le_refl _) _ _ _⟩
          · have HB := Lib.hid hb
            have M := Lib.hid (Y.out hb)
            clear hb
            go_wp2_with fail
            refine (implNumYes p q ⟨#[]⟩ _ (by decide) HB.out).mono ?_
            rintro e w1 ⟨rfl, hb1⟩
            obtain ⟨hc, hf⟩ := bcell hb1
            have B1 := Lib.hid hb1
            have B2 := Lib.hid ((below_drewN' ((Below.refl w.heap.size w).alloc (Nat.le_refl _) _) _).alloc (by simp) _ |>.trans (hb1.mono (by simp; omega)))
            clear hb1
            go_wp2
            rw [M.out]
            exact item_ret rfl rfl rfl (blk_below B1.out (blk_old (blk_drewN (blk_new w _ rfl)))) ⟨rfl, below_three (B2.out) (Nat.le_refl _) _ _ _⟩
end Go.Proofs.YtikgcogiiohahaaGreatDoor

/- NumberVector on both sides. -/
namespace Go.Proofs.YtikgcogiiohahaaGreatDoor
open Go.RowKit
set_option maxRecDepth 100000
set_option linter.unusedVariables false

def numI (x : Int) : It := ⟨(mkI x 1).n, (mkI x 1).d, ⟨#[]⟩⟩
end Go.Proofs.YtikgcogiiohahaaGreatDoor

/- SequenceOf on both sides. -/
namespace Go.Proofs.YtikgcogiiohahaaGreatDoor
open Go.RowKit
set_option maxRecDepth 100000
set_option linter.unusedVariables false

def InW (x : Int) : Prop := -999999999 ≤ x ∧ x ≤ 999999999
def SeqOk (a b : Int) : Prop := InW a ∧ InW b ∧ (b - a).natAbs < 40
def seqI (a b : Int) (i : Nat) : Int := if a ≤ b then a + (i : Int) else a - (i : Int)
def seqG (a b : Int) (i : Nat) : It := ⟨seqI a b i, 1, ⟨#[]⟩⟩
noncomputable def seqV (a b : Int) : Vec := match bB (SeqOk a b) with | true => vecOf 2 (itF (seqG a b) ((b - a).natAbs + 1)) | false => noV
noncomputable def seqS (a b : Int) : ByteArray := match bB (SeqOk a b) with | true => ⟨#[]⟩ | false => bigB
theorem wrap64_id {x : Int} (h0 : -9223372036854775808 ≤ x) (h1 : x ≤ 9223372036854775807) : IntKind.wrap .i64 x = x := by
  exact IntWalk.i64_in x ⟨h0, h1⟩
/-- -1, 0 or 1. -/
def cmpZ (x y : Int) : Int := if x < y then -1 else if y < x then 1 else 0
def intsF (f : Nat → Int) (n : Nat) : List Value := (List.range n).map (fun i => .int .i64 (f i))
theorem intsF_succ (f : Nat → Int) (n : Nat) : intsF f n ++ [.int .i64 (f n)] = intsF f (n + 1) := by unfold intsF; rw [List.range_succ, List.map_append]; rfl
/-- A row of the call's own that holds ints. -/
theorem ints_of_row {w : World} {B m : Nat} {v : Value} {f : Nat → Int} (h : w.ownsRow B 3 1 v m (intsF f m)) : ∃ sa c, v = .slice sa m c ∧ IntsAt w.heap.size w sa m f := by
  obtain ⟨_, h⟩ := h
  rcases h with ⟨rfl, rfl⟩ | ⟨g, cap, cur, rfl, hB, hg, hc, _, hs, ht⟩
  · exact ⟨none, 0, rfl, fun i hi => absurd hi (Nat.not_lt_zero _)⟩
  · refine ⟨some ⟨g, 0, none⟩, cap, rfl, fun i hi => ⟨g, 0, rfl, (Array.getElem?_eq_some_iff.1 hg).1, ?_⟩⟩
    rw [Nat.zero_add]
    refine cellOf hg ?_
    have h1 : (cur.toList.take (m * 1))[i]? = (intsF f m)[i]? := by rw [ht]
    rw [List.getElem?_take_of_lt (by omega), Array.getElem?_toList] at h1
    rw [h1]; unfold intsF; simp [hi]
/-- What the program's loop keeps: the result's block, the ints so far. -/
structure IntL (w wr : World) (f : Nat → Int) (k : Nat) (v : Value) : Prop where
  res : wr.heap[w.heap.size]? = some (.cells #[.int .i64 0, .slice none 0 0, .slice none 0 0, .slice none 0 0, .slice none 0 0, .slice none 0 0, .int .i64 0, .int .i64 0] 31 (0, 0))
  row : wr.ownsRow (w.heap.size + 1) 3 1 v k (intsF f k)
  below : Below w.heap.size w wr
theorem IntL.next {w wr w1 : World} {f : Nat → Int} {k : Nat} {z : Int} {v v' : Value} {o : Obj} (h : IntL w wr f k v) (hg : (wr.alloc o).grownBy w1 v.ownBlock) (hr : w1.ownsRow (w.heap.size + 1) 3 1 v' (k + 1) (intsF f k ++ [.int .i64 z])) (hz : z = f k) : IntL w w1 f (k + 1) v' := by
  subst hz
  have hlt := (Array.getElem?_eq_some_iff.1 h.res).1
  refine ⟨?_, intsF_succ f k ▸ hr, ?_⟩
  · refine (hg.block _ (by simp; omega) (fun e => ?_)).trans (blk_old h.res)
    have := (h.row.lt _ e.symm).1
    omega
  · exact (h.below.alloc h.below.size o).grown hg (by have := h.below.size; simp; omega) (fun r hr' => by have := (h.row.lt r hr').1; omega)
theorem IntL.start (w : World) (f : Nat → Int) : IntL w (w.alloc (.cells #[.int .i64 0, .slice none 0 0, .slice none 0 0, .slice none 0 0, .slice none 0 0, .slice none 0 0, .int .i64 0, .int .i64 0] 31)) f 0 (.slice none 0 0) := ⟨blk_new w _ rfl, ⟨rfl, .inl ⟨rfl, rfl⟩⟩, below1 w _⟩
end Go.Proofs.YtikgcogiiohahaaGreatDoor

/- The reference's view of a vector as numbers and as logical values. -/
namespace Go.Proofs.YtikgcogiiohahaaGreatDoor
open Go.RowKit
set_option maxRecDepth 100000
set_option linter.unusedVariables false

/-- What a loop that appends ints keeps. -/
structure IntR (w wr : World) (f : Nat → Int) (k : Nat) (v : Value) : Prop where
  row : wr.ownsRow w.heap.size 3 1 v k (intsF f k)
  below : Below w.heap.size w wr
theorem IntR.next {w wr w1 : World} {f : Nat → Int} {k : Nat} {z : Int} {v v' : Value} {o : Obj} (h : IntR w wr f k v) (hg : (wr.alloc o).grownBy w1 v.ownBlock) (hr : w1.ownsRow w.heap.size 3 1 v' (k + 1) (intsF f k ++ [.int .i64 z])) (hz : z = f k) : IntR w w1 f (k + 1) v' := by
  subst hz
  exact ⟨intsF_succ f k ▸ hr, (h.below.alloc h.below.size o).grown hg (by have := h.below.size; simp; omega) (fun r hr' => (h.row.lt r hr').1)⟩
theorem IntR.below' {w wr w1 : World} {f : Nat → Int} {k : Nat} {v : Value} (h : IntR w wr f k v) (hb : Below wr.heap.size wr w1) : IntR w w1 f k v := ⟨ownsRow_below h.row hb, below_then h.below hb⟩
end Go.Proofs.YtikgcogiiohahaaGreatDoor

/- Ints that are appended in a region that draws its order; remainders. -/
namespace Go.Proofs.YtikgcogiiohahaaGreatDoor
open Go.RowKit
set_option maxRecDepth 100000
set_option linter.unusedVariables false

section
variable {P : Program} {ops : Array Oper} {Q : Exit → Act → World → Prop} {S : World → Prop}
variable {r : List (Nat × Bool)} {a : Act} {e : List (Nat × Value)} {w : World} {i d : Nat} {g : Option (Nat × Bool)} {v : Value}
end
section
variable {ops : Array Oper} {Q : Exit → Act → World → Prop} {S : World → Prop}
variable {r : List (Nat × Bool)} {a : Act} {e : List (Nat × Value)} {w : World} {i d : Nat} {g : Option (Nat × Bool)} {v : Value}
theorem IntR.keep {w wr w1 : World} {f : Nat → Int} {k : Nat} {v : Value} (h : IntR w wr f k v) (hb : Below wr.heap.size wr w1) : IntR w w1 f k v := h.below' hb
end
end Go.Proofs.YtikgcogiiohahaaGreatDoor

/- Calls by a function's value, items at an index, items that are appended to a local slice: operations of a region that draws its order. -/
namespace Go.Proofs.YtikgcogiiohahaaGreatDoor
open Go.RowKit
set_option maxRecDepth 100000
set_option linter.unusedVariables false

section
variable {P : Program} {ops : Array Oper} {Q : Exit → Act → World → Prop} {S : World → Prop}
variable {r : List (Nat × Bool)} {a : Act} {e : List (Nat × Value)} {w : World} {i d : Nat} {g : Option (Nat × Bool)} {v : Value}
end
section
variable {ops : Array Oper} {Q : Exit → Act → World → Prop} {S : World → Prop} {w0 : World} {L : List (Nat × TypeId × Array Value)}
variable {r : List (Nat × Bool)} {a : Act} {e : List (Nat × Value)} {w : World} {i d : Nat} {g : Option (Nat × Bool)} {v : Value}
/-- The address of an item of a slice. -/
theorem run_idx3 {x y : Operand} {b off n c k : Nat} (ho : opAt ops i = some (some d, .indexAddr 28 x y, g)) (hd : Nat.blt d a.tmps.size = true) (hw : wantE ops a e g = some true)
    (hx : lookO a e x = .slice (some ⟨b, off, none⟩) n c) (hy : lookO a e y = .int .i64 (k : Int)) (hk : k < n)
    (h : RunE Tryz.prog ops Q S r a ((d, .pointer (some ⟨b, off + k * 3, none⟩)) :: e) w) : RunE Tryz.prog ops Q S ((i, true) :: r) a e w :=
  run_yield ho hd hw (fun o w' h1 _ => by
    unfold execOp; rw [h1]; simp only [hx, hy]
    refine run_v ?_
    obtain ⟨ie, hie, _, hsz, _⟩ := info_parts infoItm3
    have he : Tryz.prog.elem 28 = 45 := by kernel_rfl
    rw [← he] at hie
    rw [run_indexAt_slice (h := Tryz.underlying28), if_pos ⟨Int.natCast_nonneg k, by omega⟩]
    simp [sizeOf, typeInfo, hie, hsz, addr_add]) h
/-- An item that lay there at the outset. -/
theorem runC_oldI {x : Operand} {b j : Nat} {z : It} (ho : opAt ops i = some (some d, .load 45 x, g)) (hd : Nat.blt d a.tmps.size = true) (hw : wantE ops a e g = some true)
    (hx : lookO a e x = .pointer (some ⟨b, j, none⟩)) (hb : b < w0.heap.size) (h0 : w0.cell? ⟨b, j, none⟩ = some (.int .i64 z.n)) (h1 : w0.cell? ⟨b, j + 1, none⟩ = some (.int .i64 z.d)) (h2 : w0.cell? ⟨b, j + 2, none⟩ = some (.string z.t))
    (h : RunE Tryz.prog ops Q (fun w' => HeldC w0 w' L) r a ((d, .agg #[.int .i64 z.n, .int .i64 z.d, .string z.t]) :: e) w) : RunE Tryz.prog ops Q (fun w' => HeldC w0 w' L) ((i, true) :: r) a e w :=
  run_load ho hd hw hx (fun w' hS => run_loadVar_mid w' b j 45 [.int .i64 z.n, .int .i64 z.d, .string z.t] _ (fun k v hv => by
    have hlt : k < 3 := by have := (List.getElem?_eq_some_iff.1 hv).1; simpa using this
    rw [hS.1.cell (p := ⟨b, j + k, none⟩) hb, ← hv]
    rcases (show k = 0 ∨ k = 1 ∨ k = 2 by omega) with rfl | rfl | rfl
    · exact h0
    · exact h1
    · exact h2) Tryz.underlying45 rfl infoItem) h
/-- What a loop that appends items to a local slice keeps. -/
structure ItR (w wr : World) (l : List It) (v : Value) : Prop where
  row : wr.ownsRow w.heap.size 45 3 v l.length (itCells l)
  below : Below w.heap.size w wr
theorem ItR.keep {w wr w1 : World} {l : List It} {v : Value} (h : ItR w wr l v) (hb : Below wr.heap.size wr w1) : ItR w w1 l v := ⟨ownsRow_below h.row hb, below_then h.below hb⟩
end
end Go.Proofs.YtikgcogiiohahaaGreatDoor

/- Chapter 7: problems, the first equal element. -/
namespace Go.Proofs.YtikgcogiiohahaaGreatDoor
open Go.RowKit
set_option maxRecDepth 100000
set_option linter.unusedVariables false

/-- "not an atomic vector" and its like. -/
def natB : ByteArray := ⟨#[110, 111, 116, 32, 97, 110, 32, 97, 116, 111, 109, 105, 99, 32, 118, 101, 99, 116, 111, 114]⟩
def nlgB : ByteArray := ⟨#[110, 111, 116, 32, 97, 32, 108, 111, 103, 105, 99, 97, 108, 32, 118, 101, 99, 116, 111, 114]⟩
def nelB : ByteArray := ⟨#[110, 111, 116, 32, 97, 32, 118, 101, 99, 116, 111, 114, 32, 111, 102, 32, 101, 108, 101, 109, 101, 110, 116, 115]⟩
def kindV (v : Vec) : Int := match v with | .mk k _ _ _ _ _ _ _ => k
/-- The problem of a vector that must be atomic or NULL. -/
noncomputable def atmS (v : Vec) : ByteArray := match bB (ValidV v), bB (kindV v ≤ 3) with | false, _ => badB | true, false => natB | true, true => ⟨#[]⟩
theorem atmS_bad {v : Vec} (h : ¬ ValidV v) : atmS v = badB := by unfold atmS; rw [bB_no h]
theorem atmS_non {v : Vec} (h : ValidV v) (hk : ¬ kindV v ≤ 3) : atmS v = natB := by unfold atmS; rw [bB_yes h, bB_no hk]
theorem atmS_yes {v : Vec} (h : ValidV v) (hk : kindV v ≤ 3) : atmS v = ⟨#[]⟩ := by unfold atmS; rw [bB_yes h, bB_yes hk]
theorem atmS_iff {v : Vec} : atmS v = ⟨#[]⟩ ↔ (ValidV v ∧ kindV v ≤ 3) := by
  constructor
  · intro e
    by_cases h : ValidV v
    · by_cases hk : kindV v ≤ 3
      · exact ⟨h, hk⟩
      · rw [atmS_non h hk] at e; exact absurd e (by decide)
    · rw [atmS_bad h] at e; exact absurd e (by decide)
  · intro h; exact atmS_yes h.1 h.2
/-- Is r the first place of x in l, or -1? -/
def FirstIs (l : List It) (x : It) (r : Int) : Prop := (r = -1 ∧ ∀ i, i < l.length → l.getD i noI ≠ x) ∨ ∃ j : Nat, r = j ∧ j < l.length ∧ l.getD j noI = x ∧ ∀ i, i < j → l.getD i noI ≠ x
/-- Is there an equal element ahead? -/
def DupAt (l : List It) (i : Nat) : Prop := ∃ j, j < i ∧ l.getD j noI = l.getD i noI
theorem eql_no {w' : World} {x y : It} {X Y : Operand} (h : x ≠ y) :
    (do eqGuard .eql 45 X Y (.agg #[.int .i64 x.n, .int .i64 x.d, .string x.t]) (.agg #[.int .i64 y.n, .int .i64 y.d, .string y.t]); binOp .eql 45 (.agg #[.int .i64 x.n, .int .i64 x.d, .string x.t]) (.agg #[.int .i64 y.n, .int .i64 y.d, .string y.t]) : Sem Value).run Tryz.prog w' = .ok (.bool false) w' := by
  obtain ⟨xn, xd, xt⟩ := x
  obtain ⟨yn, yd, yt⟩ := y
  have hm : Tryz.prog.eqGuardType Tryz.prog.depth 45 = false := by kernel_rfl
  rw [Sem.run_bind, run_eqGuard_agg (hm := hm)]
  show (binOp .eql 45 _ _).run Tryz.prog w' = _
  rw [run_eql_struct]
  by_cases h0 : xn = yn
  · subst h0
    by_cases h1 : xd = yd
    · subst h1
      have h2 : ¬ xt.toList = yt.toList := fun e => h (by rw [toList_inj e])
      simp [go_sem, h2]
    · simp [go_sem, h1]
  · simp [go_sem, h0]
section
variable {ops : Array Oper} {Q : Exit → Act → World → Prop} {S : World → Prop}
variable {r : List (Nat × Bool)} {a : Act} {e : List (Nat × Value)} {w : World} {i d : Nat} {g : Option (Nat × Bool)}
end
theorem ItemsAt.take {lo hi : Nat} {w : World} {a : Option Addr} {l : List It} (h : ItemsAt lo hi w a l) (k : Nat) : ItemsAt lo hi w a (l.take k) := fun i x hx => by
  rw [List.getElem?_take] at hx
  split at hx
  · exact h i x hx
  · cases hx
set_option maxHeartbeats 2000000 in
theorem implIndexIt (l : List It) (x : It) (a : Option Addr) (c lo hi : Nat) (w : World) (hI : ItemsAt lo hi w a l) (hhi : hi ≤ w.heap.size) (hn : l.length ≤ 1048576) :
    Calls Tryz.prog 26 #[.slice a l.length c, .agg #[.int .i64 x.n, .int .i64 x.d, .string x.t]] w fun e w' => ∃ r, FirstIs l x r ∧ e = .returned (.int .i64 r) ∧ Below w.heap.size w w' := by
  have AI := Lib.hid (fun (k : Nat) (hk : k < l.length) => hI.at_ hk)
  obtain ⟨n, hn'⟩ : ∃ n, l.length = n := ⟨_, rfl⟩
  have HN := Lib.hid hn'
  rw [hn'] at AI hn ⊢
  clear hn' hI
  have K0 := Lib.hid (blk_new w (.cells #[.int .i64 x.n, .int .i64 x.d, .string x.t] 45) rfl)
  have B0 := Lib.hid (below1 w (.cells #[.int .i64 x.n, .int .i64 x.d, .string x.t] 45))
  go_enter Tryz.func26, Tryz.ntmps26
  go_wp2
  go_loopw [8] (fun i wr => ∃ k : Nat, k ≤ n ∧ i = .int .i64 k ∧ (∀ j, j < k → l.getD j noI ≠ x) ∧ Below w.heap.size w wr ∧ wr.heap[w.heap.size]? = some (.cells #[.int .i64 x.n, .int .i64 x.d, .string x.t] 45 (0, 0))) (fun i _ => n - (intOf i).toNat)
  case atStart => exact ⟨0, Nat.zero_le _, rfl, (fun _ h => absurd h (Nat.not_lt_zero _)), B0.out, K0.out⟩
  case round =>
    obtain ⟨k, hk, rfl, hne, hb, hk0⟩ := hrel
    have NE := Lib.hid hne
    have BW := Lib.hid hb
    have KX := Lib.hid hk0
    clear hne hb hk0
    by_cases hlt : k < n
    · obtain ⟨ba, off, rfl, hbB, c0, c1, c2'⟩ := AI.out k hlt
      have c2 : w.cell? ⟨ba, off + k * 3 + 2, none⟩ = some (.string (l.getD k noI).t) := c2'
      have hbw0 : ba < w.heap.size := Nat.lt_of_lt_of_le hbB hhi
      obtain ⟨y, hy⟩ : ∃ y, l.getD k noI = y := ⟨_, rfl⟩
      rw [hy] at c0 c1 c2
      have H := Lib.hid (show HeldC w wr [(w.heap.size, 45, #[.int .i64 x.n, .int .i64 x.d, .string x.t])] from heldC_one BW.out KX.out)
      by_cases hxy : x = y
      · have X := Lib.hid (show FirstIs l x (k : Int) from .inr ⟨k, rfl, by have := HN.out; omega, hy.trans hxy.symm, NE.out⟩)
        clear hy c2'
        go_upto_region 4 with (fail)
        refine run_region (ops := (opsOf Tryz.f26 4)) (S := fun w' => HeldC w w' ([(w.heap.size, 45, #[.int .i64 x.n, .int .i64 x.d, .string x.t])])) [(0, true), (1, true), (2, true), (3, true), (4, true), (5, true)] (by kernel_rfl) (by kernel_rfl) (by kernel_rfl) (by kernel_rfl) (by kernel_rfl) (fun _ _ _ _ _ h => h) (heldC_drew H.out) ?_
        have H := Lib.hid (heldC_drew H.out)
        refine runC_itm (b := w.heap.size) (show opAt (opsOf Tryz.f26 4) 0 = some (some 11, .load 45 (.tmp 3), none) from by kernel_rfl) (by kernel_rfl) (by kernel_rfl) (by kernel_rfl) (List.Mem.head _) ?_
        refine run_mov (v := .slice (some ⟨ba, off, none⟩) n c) (show opAt (opsOf Tryz.f26 4) 1 = some (some 12, .move (.tmp 0), none) from by kernel_rfl) (by kernel_rfl) (by kernel_rfl) (by kernel_rfl) ?_
        refine run_mov (v := .int .i64 ((k : Int))) (show opAt (opsOf Tryz.f26 4) 2 = some (some 13, .move (.tmp 5), none) from by kernel_rfl) (by kernel_rfl) (by kernel_rfl) (by kernel_rfl) ?_
        refine run_idx3 (n := n) (c := c) (b := ba) (off := off) (k := k) (show opAt (opsOf Tryz.f26 4) 3 = some (some 14, .indexAddr 28 (.tmp 12) (.tmp 13), none) from by kernel_rfl) (by kernel_rfl) (by kernel_rfl) (by kernel_rfl) (by kernel_rfl) hlt ?_
        refine runC_oldI (b := ba) (j := off + k * 3) (z := y) (show opAt (opsOf Tryz.f26 4) 4 = some (some 15, .load 45 (.tmp 14), none) from by kernel_rfl) (by kernel_rfl) (by kernel_rfl) (by kernel_rfl) hbw0 c0 c1 c2 ?_
        refine run_same (v := .bool true) (p := .agg #[.int .i64 x.n, .int .i64 x.d, .string x.t]) (q := .agg #[.int .i64 y.n, .int .i64 y.d, .string y.t]) (show opAt (opsOf Tryz.f26 4) 5 = some (some 16, .binOp .eql 45 (.tmp 11) (.tmp 15) 45, none) from by kernel_rfl) (by kernel_rfl) (by kernel_rfl) (by kernel_rfl) (by kernel_rfl) (fun w' => eql_item hxy) ?_
        refine run_done ?_
        simp only [putAll, Act.put, List.setIfInBounds_toArray, List.set_cons_zero, List.set_cons_succ]
        have HB := Lib.hid H.out.1
        go_wp2
        go_ret
        exact ⟨_, X.out, rfl, HB.out⟩
      · have N2 := Lib.hid (show ∀ j, j < k + 1 → l.getD j noI ≠ x from fun j hj => by
          by_cases e : j = k
          · subst e; rw [hy]; exact Ne.symm hxy
          · exact NE.out j (by omega))
        clear hy c2'
        go_upto_region 4 with (fail)
        refine run_region (ops := (opsOf Tryz.f26 4)) (S := fun w' => HeldC w w' ([(w.heap.size, 45, #[.int .i64 x.n, .int .i64 x.d, .string x.t])])) [(0, true), (1, true), (2, true), (3, true), (4, true), (5, true)] (by kernel_rfl) (by kernel_rfl) (by kernel_rfl) (by kernel_rfl) (by kernel_rfl) (fun _ _ _ _ _ h => h) (heldC_drew H.out) ?_
        have H := Lib.hid (heldC_drew H.out)
        refine runC_itm (b := w.heap.size) (show opAt (opsOf Tryz.f26 4) 0 = some (some 11, .load 45 (.tmp 3), none) from by kernel_rfl) (by kernel_rfl) (by kernel_rfl) (by kernel_rfl) (List.Mem.head _) ?_
        refine run_mov (v := .slice (some ⟨ba, off, none⟩) n c) (show opAt (opsOf Tryz.f26 4) 1 = some (some 12, .move (.tmp 0), none) from by kernel_rfl) (by kernel_rfl) (by kernel_rfl) (by kernel_rfl) ?_
        refine run_mov (v := .int .i64 ((k : Int))) (show opAt (opsOf Tryz.f26 4) 2 = some (some 13, .move (.tmp 5), none) from by kernel_rfl) (by kernel_rfl) (by kernel_rfl) (by kernel_rfl) ?_
        refine run_idx3 (n := n) (c := c) (b := ba) (off := off) (k := k) (show opAt (opsOf Tryz.f26 4) 3 = some (some 14, .indexAddr 28 (.tmp 12) (.tmp 13), none) from by kernel_rfl) (by kernel_rfl) (by kernel_rfl) (by kernel_rfl) (by kernel_rfl) hlt ?_
        refine runC_oldI (b := ba) (j := off + k * 3) (z := y) (show opAt (opsOf Tryz.f26 4) 4 = some (some 15, .load 45 (.tmp 14), none) from by kernel_rfl) (by kernel_rfl) (by kernel_rfl) (by kernel_rfl) hbw0 c0 c1 c2 ?_
        refine run_same (v := .bool false) (p := .agg #[.int .i64 x.n, .int .i64 x.d, .string x.t]) (q := .agg #[.int .i64 y.n, .int .i64 y.d, .string y.t]) (show opAt (opsOf Tryz.f26 4) 5 = some (some 16, .binOp .eql 45 (.tmp 11) (.tmp 15) 45, none) from by kernel_rfl) (by kernel_rfl) (by kernel_rfl) (by kernel_rfl) (by kernel_rfl) (fun w' => eql_no hxy) ?_
        refine run_done ?_
        simp only [putAll, Act.put, List.setIfInBounds_toArray, List.set_cons_zero, List.set_cons_succ]
        have HB := Lib.hid H.out.1
        have HK := Lib.hid (heldC_at H.out (List.Mem.head _))
        go_wp2
        go_roundw
        case rel => exact ⟨k + 1, by omega, by go_num, N2.out, HB.out, HK.out⟩
        case measure => simp [intOf]; omega
    · obtain rfl : k = n := by omega
      have X := Lib.hid (show FirstIs l x (-1) from .inl ⟨rfl, by rw [HN.out]; exact NE.out⟩)
      go_wp2
      go_ret
      exact ⟨_, X.out, rfl, BW.out⟩
set_option maxHeartbeats 2000000 in
theorem specFirst (l : List It) (x : It) (a : Option Addr) (c lo hi : Nat) (w : World) (hI : ItemsAt lo hi w a l) (hhi : hi ≤ w.heap.size) (hn : l.length ≤ 1048576) :
    Calls Tryz.prog 18 #[.slice a l.length c, .agg #[.int .i64 x.n, .int .i64 x.d, .string x.t]] w fun e w' => ∃ r, FirstIs l x r ∧ e = .returned (.int .i64 r) ∧ Below w.heap.size w w' := by
  have AI := Lib.hid (fun (k : Nat) (hk : k < l.length) => hI.at_ hk)
  obtain ⟨n, hn'⟩ : ∃ n, l.length = n := ⟨_, rfl⟩
  have HN := Lib.hid hn'
  rw [hn'] at AI hn ⊢
  clear hn' hI
  have K0 := Lib.hid (blk_new w (.cells #[.int .i64 x.n, .int .i64 x.d, .string x.t] 45) rfl)
  have B0 := Lib.hid (below1 w (.cells #[.int .i64 x.n, .int .i64 x.d, .string x.t] 45))
  go_enter Tryz.func18, Tryz.ntmps18
  go_wp2
  go_loopw [5] (fun i wr => ∃ k : Nat, k ≤ n ∧ i = .int .i64 k ∧ (∀ j, j < k → l.getD j noI ≠ x) ∧ Below w.heap.size w wr ∧ wr.heap[w.heap.size]? = some (.cells #[.int .i64 x.n, .int .i64 x.d, .string x.t] 45 (0, 0))) (fun i _ => n - (intOf i).toNat)
  case atStart => exact ⟨0, Nat.zero_le _, rfl, (fun _ h => absurd h (Nat.not_lt_zero _)), B0.out, K0.out⟩
  case round =>
    obtain ⟨k, hk, rfl, hne, hb, hk0⟩ := hrel
    have NE := Lib.hid hne
    have BW := Lib.hid hb
    have KX := Lib.hid hk0
    clear hne hb hk0
    by_cases hlt : k < n
    · obtain ⟨ba, off, rfl, hbB, c0, c1, c2'⟩ := AI.out k hlt
      have c2 : w.cell? ⟨ba, off + k * 3 + 2, none⟩ = some (.string (l.getD k noI).t) := c2'
      have hbw0 : ba < w.heap.size := Nat.lt_of_lt_of_le hbB hhi
      obtain ⟨y, hy⟩ : ∃ y, l.getD k noI = y := ⟨_, rfl⟩
      rw [hy] at c0 c1 c2
      have H := Lib.hid (show HeldC w wr [(w.heap.size, 45, #[.int .i64 x.n, .int .i64 x.d, .string x.t])] from heldC_one BW.out KX.out)
      by_cases hxy : x = y
      · have X := Lib.hid (show FirstIs l x (k : Int) from .inr ⟨k, rfl, by have := HN.out; omega, hy.trans hxy.symm, NE.out⟩)
        clear hy c2'
        go_upto_region 4 with (fail)
        refine run_region (ops := (opsOf Tryz.f18 4)) (S := fun w' => HeldC w w' ([(w.heap.size, 45, #[.int .i64 x.n, .int .i64 x.d, .string x.t])])) [(0, true), (1, true), (2, true), (3, true), (4, true), (5, true)] (by kernel_rfl) (by kernel_rfl) (by kernel_rfl) (by kernel_rfl) (by kernel_rfl) (fun _ _ _ _ _ h => h) (heldC_drew H.out) ?_
        have H := Lib.hid (heldC_drew H.out)
        refine run_mov (v := .slice (some ⟨ba, off, none⟩) n c) (show opAt (opsOf Tryz.f18 4) 0 = some (some 12, .move (.tmp 0), none) from by kernel_rfl) (by kernel_rfl) (by kernel_rfl) (by kernel_rfl) ?_
        refine run_mov (v := .int .i64 ((k : Int))) (show opAt (opsOf Tryz.f18 4) 1 = some (some 13, .move (.tmp 5), none) from by kernel_rfl) (by kernel_rfl) (by kernel_rfl) (by kernel_rfl) ?_
        refine run_idx3 (n := n) (c := c) (b := ba) (off := off) (k := k) (show opAt (opsOf Tryz.f18 4) 2 = some (some 14, .indexAddr 28 (.tmp 12) (.tmp 13), none) from by kernel_rfl) (by kernel_rfl) (by kernel_rfl) (by kernel_rfl) (by kernel_rfl) hlt ?_
        refine runC_oldI (b := ba) (j := off + k * 3) (z := y) (show opAt (opsOf Tryz.f18 4) 3 = some (some 15, .load 45 (.tmp 14), none) from by kernel_rfl) (by kernel_rfl) (by kernel_rfl) (by kernel_rfl) hbw0 c0 c1 c2 ?_
        refine runC_itm (b := w.heap.size) (show opAt (opsOf Tryz.f18 4) 4 = some (some 16, .load 45 (.tmp 3), none) from by kernel_rfl) (by kernel_rfl) (by kernel_rfl) (by kernel_rfl) (List.Mem.head _) ?_
        refine run_same (v := .bool true) (p := .agg #[.int .i64 y.n, .int .i64 y.d, .string y.t]) (q := .agg #[.int .i64 x.n, .int .i64 x.d, .string x.t]) (show opAt (opsOf Tryz.f18 4) 5 = some (some 17, .binOp .eql 45 (.tmp 15) (.tmp 16) 45, none) from by kernel_rfl) (by kernel_rfl) (by kernel_rfl) (by kernel_rfl) (by kernel_rfl) (fun w' => eql_item hxy.symm) ?_
        refine run_done ?_
        simp only [putAll, Act.put, List.setIfInBounds_toArray, List.set_cons_zero, List.set_cons_succ]
        have HB := Lib.hid H.out.1
        go_wp2
        go_ret
        exact ⟨_, X.out, rfl, HB.out⟩
      · have N2 := Lib.hid (show ∀ j, j < k + 1 → l.getD j noI ≠ x from fun j hj => by
          by_cases e : j = k
          · subst e; rw [hy]; exact Ne.symm hxy
          · exact NE.out j (by omega))
        clear hy c2'
        go_upto_region 4 with (fail)
        refine run_region (ops := (opsOf Tryz.f18 4)) (S := fun w' => HeldC w w' ([(w.heap.size, 45, #[.int .i64 x.n, .int .i64 x.d, .string x.t])])) [(0, true), (1, true), (2, true), (3, true), (4, true), (5, true)] (by kernel_rfl) (by kernel_rfl) (by kernel_rfl) (by kernel_rfl) (by kernel_rfl) (fun _ _ _ _ _ h => h) (heldC_drew H.out) ?_
        have H := Lib.hid (heldC_drew H.out)
        refine run_mov (v := .slice (some ⟨ba, off, none⟩) n c) (show opAt (opsOf Tryz.f18 4) 0 = some (some 12, .move (.tmp 0), none) from by kernel_rfl) (by kernel_rfl) (by kernel_rfl) (by kernel_rfl) ?_
        refine run_mov (v := .int .i64 ((k : Int))) (show opAt (opsOf Tryz.f18 4) 1 = some (some 13, .move (.tmp 5), none) from by kernel_rfl) (by kernel_rfl) (by kernel_rfl) (by kernel_rfl) ?_
        refine run_idx3 (n := n) (c := c) (b := ba) (off := off) (k := k) (show opAt (opsOf Tryz.f18 4) 2 = some (some 14, .indexAddr 28 (.tmp 12) (.tmp 13), none) from by kernel_rfl) (by kernel_rfl) (by kernel_rfl) (by kernel_rfl) (by kernel_rfl) hlt ?_
        refine runC_oldI (b := ba) (j := off + k * 3) (z := y) (show opAt (opsOf Tryz.f18 4) 3 = some (some 15, .load 45 (.tmp 14), none) from by kernel_rfl) (by kernel_rfl) (by kernel_rfl) (by kernel_rfl) hbw0 c0 c1 c2 ?_
        refine runC_itm (b := w.heap.size) (show opAt (opsOf Tryz.f18 4) 4 = some (some 16, .load 45 (.tmp 3), none) from by kernel_rfl) (by kernel_rfl) (by kernel_rfl) (by kernel_rfl) (List.Mem.head _) ?_
        refine run_same (v := .bool false) (p := .agg #[.int .i64 y.n, .int .i64 y.d, .string y.t]) (q := .agg #[.int .i64 x.n, .int .i64 x.d, .string x.t]) (show opAt (opsOf Tryz.f18 4) 5 = some (some 17, .binOp .eql 45 (.tmp 15) (.tmp 16) 45, none) from by kernel_rfl) (by kernel_rfl) (by kernel_rfl) (by kernel_rfl) (by kernel_rfl) (fun w' => eql_no (Ne.symm hxy)) ?_
        refine run_done ?_
        simp only [putAll, Act.put, List.setIfInBounds_toArray, List.set_cons_zero, List.set_cons_succ]
        have HB := Lib.hid H.out.1
        have HK := Lib.hid (heldC_at H.out (List.Mem.head _))
        go_wp2
        go_roundw
        case rel => exact ⟨k + 1, by omega, by go_num, N2.out, HB.out, HK.out⟩
        case measure => simp [intOf]; omega
    · obtain rfl : k = n := by omega
      have X := Lib.hid (show FirstIs l x (-1) from .inl ⟨rfl, by rw [HN.out]; exact NE.out⟩)
      go_wp2
      go_ret
      exact ⟨_, X.out, rfl, BW.out⟩
theorem implAtN (kk : Int) (a1 a2 a3 a4 a5 : Option Addr) (n1 m1 n2 m2 n3 m3 n4 m4 n5 m5 : Nat) (code env : Int) (w : World) :
    Calls Tryz.prog 42 #[.agg #[.int .i64 kk, .slice a1 n1 m1, .slice a2 n2 m2, .slice a3 n3 m3, .slice a4 n4 m4, .slice a5 n5 m5, .int .i64 code, .int .i64 env]] w fun e w' => e = .returned (.bool (decide (kk ≤ 3))) ∧ Below w.heap.size w w' := by
  go_enter Tryz.func42, Tryz.ntmps42
  go_wp2
  go_ret
  exact ⟨rfl, below1 w _⟩
set_option maxHeartbeats 1000000 in
theorem specAtm (d : Nat) (v : Vec) (val : Value) (lo hi : Nat) (w : World) (hv : VecAt lo hi w d v val) (hhi : hi ≤ w.heap.size) (hsm : Small d v) :
    Calls Tryz.prog 14 #[val] w fun e w' => e = .returned (.string (atmS v)) ∧ Below w.heap.size w w' := by
  have C1 := Lib.hid (fun (w1 : World) (hb : Below w.heap.size w w1) => specIsVector d v val lo hi w1 (hv.below hb hhi) (Nat.le_trans hhi hb.size) hsm)
  obtain ⟨VV, hVV⟩ : ∃ V, v = V := ⟨_, rfl⟩
  rw [hVV] at C1 ⊢
  obtain ⟨kk, items, parts, names, cls, levels, code, env⟩ := v
  obtain ⟨d', ai, ci, ap, cp, an, cn, ac, cc, al, cl, ed, rfl, hI, hN, hC, hL, hP⟩ := vecAt_open hv
  have XK : kindV VV = kk := by rw [← hVV]; rfl
  clear hv hI hN hC hL hP hsm ed hVV
  go_enter Tryz.func14, Tryz.ntmps14
  go_wp2_with fail
  obtain ⟨w1, hw1⟩ : ∃ W, w.alloc (.cells #[.int .i64 kk, .slice ai items.length ci, .slice ap parts.length cp, .slice an names.length cn, .slice ac cls.length cc, .slice al levels.length cl, .int .i64 code, .int .i64 env] 31) = W := ⟨_, rfl⟩
  have B1 := Lib.hid (show Below w.heap.size w w1 from hw1 ▸ below1 w _)
  have KA := Lib.hid (show w1.heap[w.heap.size]? = some (.cells #[.int .i64 kk, .slice ai items.length ci, .slice ap parts.length cp, .slice an names.length cn, .slice ac cls.length cc, .slice al levels.length cl, .int .i64 code, .int .i64 env] 31 (0, 0)) from hw1 ▸ blk_new w _ rfl)
  rw [hw1]
  clear hw1
  with_reducible refine (C1.out _ B1.out).mono ?_
  rintro e w2 ⟨rfl, b⟩
  have B2 := Lib.hid (below_then B1.out b)
  have KA2 := Lib.hid (blk_below b KA.out)
  clear b
  obtain ⟨k0, k1, k2, k3, k4, k5, k6, k7⟩ := vec8 KA2.out
  by_cases q : ValidV VV
  · rw [bB_yes q]
    by_cases hk3 : kk ≤ 3
    · have Q := Lib.hid (atmS_yes q (by rw [XK]; exact hk3))
      clear q XK
      go_wp2
      go_ret
      exact ⟨by rw [Q.out]; rfl, B2.out⟩
    · have Q := Lib.hid (atmS_non q (by rw [XK]; exact hk3))
      have hk4 : 4 ≤ kk := by omega
      clear q XK hk3
      go_wp2
      go_ret
      exact ⟨by rw [Q.out]; rfl, B2.out⟩
  · rw [bB_no q]
    have X := Lib.hid (atmS_bad q)
    clear q XK
    go_wp2
    go_ret
    exact ⟨by rw [X.out]; rfl, B2.out⟩
end Go.Proofs.YtikgcogiiohahaaGreatDoor

/- TextVector on both sides. -/
namespace Go.Proofs.YtikgcogiiohahaaGreatDoor
open Go.RowKit
set_option maxRecDepth 100000
set_option linter.unusedVariables false

def txE (s : ByteArray) : It := ⟨0, 1, s⟩
theorem itF_getD (g : Nat → It) {i n : Nat} (h : i < n) : (itF g n).getD i noI = g i := by unfold itF; simp [List.getD_eq_getElem?_getD, h]
/-- What TextVector answers. -/
noncomputable def textV (f : Nat → ByteArray) (n : Nat) : Vec := match bB (n ≤ 40 ∧ ¬ LongIn f n) with
  | true => vecOf 3 (itF (fun i => txE (f i)) n)
  | false => noV
theorem implTxtItem (s : ByteArray) (w : World) :
    Calls Tryz.prog 69 #[.string s] w fun e w' => e = .returned (.agg #[.int .i64 0, .int .i64 1, .string s]) ∧ Below w.heap.size w w' := by
  go_enter Tryz.func69, Tryz.ntmps69
  go_wp2
  first | exact item_ret0 rfl rfl rfl (blk_new _ _ rfl) ⟨rfl, below1 w _⟩ | exact item_ret rfl rfl rfl (blk_new _ _ rfl) ⟨rfl, below_three (below1 w _) (Nat.le_refl _) _ _ _⟩
theorem specTxtItem (s : ByteArray) (w : World) :
    Calls Tryz.prog 38 #[.string s] w fun e w' => e = .returned (.agg #[.int .i64 0, .int .i64 1, .string s]) ∧ Below w.heap.size w w' := by
  go_enter Tryz.func38, Tryz.ntmps38
  go_wp2
  first | exact item_ret0 rfl rfl rfl (blk_new _ _ rfl) ⟨rfl, below1 w _⟩ | exact item_ret rfl rfl rfl (blk_new _ _ rfl) ⟨rfl, below_three (below1 w _) (Nat.le_refl _) _ _ _⟩
theorem AppL.vat {w wr : World} {kind : Int} {l : List It} {sa : Option Addr} {sn sc : Nat} (h : AppL w wr kind l sa sn sc) : VecAt 0 wr.heap.size wr 1 (vecOf kind l) (.agg #[.int .i64 kind, .slice sa sn sc, .slice none 0 0, .slice none 0 0, .slice none 0 0, .slice none 0 0, .int .i64 0, .int .i64 0]) :=
  (own_vecOf (k := kind) (lo := 0) h.row (Nat.zero_le _)).vat (Nat.le_refl _)
end Go.Proofs.YtikgcogiiohahaaGreatDoor

/- The text of an integer: the specification's function, against one plain function. -/
namespace Go.Proofs.YtikgcogiiohahaaGreatDoor
set_option maxRecDepth 100000
open Go.RowKit

theorem ret_strF {a b : ByteArray} (h : a = b) : Ending.returned (.string a) = .returned (.string b) := by rw [h]
set_option maxHeartbeats 1000000 in
theorem specFmtPos (n : Nat) (w : World) (h : n ≤ 9223372036854775807) (h0 : 0 < n) :
    Calls Tryz.prog 52 #[.int .i64 n] w fun e w' => e = .returned (.string ⟨(Lib.decDigits n).toArray⟩) ∧ w = w' := by
  go_enter Tryz.func52, Tryz.ntmps52
  go_wp2
  go_loop [3, 4] (fun v x => ∃ a : Nat, a ≤ n ∧ x = .int .i64 a ∧ DigAt n a v) (fun _ x => (intOf x).toNat)
  case atStart => exact ⟨n, Nat.le_refl _, rfl, DigAt.start n⟩
  case round =>
    obtain ⟨a, ha, rfl, ⟨acc, rfl, hd⟩⟩ := hrel
    have hal := acc_len hd (by omega) h0
    have D := Lib.hid hd
    clear hd
    by_cases hz : 0 < a
    · have hx := digit_text (a % 10) (by omega)
      go_wp2
      go_round
      case rel => exact ⟨a / 10, by omega, by go_num, DigAt.step D.out (by omega) rfl⟩
      case measure => simp [intOf]; omega
    · obtain rfl : a = 0 := by omega
      have X := Lib.hid (digs_pos n (by omega))
      go_wp2
      go_ret
      exact ⟨ret_strF (by rw [← X.out, ← D.out]; rfl), rfl⟩
theorem int0 (a : Nat) (h : 0 < a) : (-(a : Int) != 0) = true := by simp; omega
set_option maxHeartbeats 1000000 in
theorem specFmtNeg (n : Nat) (w : World) (h : n ≤ 9223372036854775808) (h0 : 0 < n) :
    Calls Tryz.prog 52 #[.int .i64 (-(n : Int))] w fun e w' => e = .returned (.string ⟨(45 :: Lib.decDigits n).toArray⟩) ∧ w = w' := by
  have g0 : (-(n : Int) == 0) = false := by simp; omega
  have g1 : -(n : Int) < 0 := by omega
  go_enter Tryz.func52, Tryz.ntmps52
  go_wp2
  go_loop [3, 4] (fun v x => ∃ a : Nat, a ≤ n ∧ x = .int .i64 (-(a : Int)) ∧ DigAt n a v) (fun _ x => (-(intOf x)).toNat)
  case atStart => exact ⟨n, Nat.le_refl _, rfl, DigAt.start n⟩
  case round =>
    obtain ⟨a, ha, rfl, ⟨acc, rfl, hd⟩⟩ := hrel
    have hal := acc_len hd h h0
    have D := Lib.hid hd
    clear hd
    by_cases hz : 0 < a
    · have hx := digit_text (a % 10) (by omega)
      have HX := Lib.hid hx
      have q1 := neg_tdiv a
      have q2 := neg_tmod a
      have q3 := int0 a hz
      go_wp2
      · go_round
        case rel => exact ⟨a / 10, by omega, by go_num, DigAt.step D.out (by omega) rfl⟩
        case measure => simp [intOf]; omega
      · go_round
        case rel => exact ⟨a / 10, by omega, by go_num, DigAt.step D.out (by omega) (by
          have e1 : (-((a : Int) % 10)).toNat = a % 10 := by omega
          have e2 : (-((a : Int) % 10) + 1).toNat = a % 10 + 1 := by omega
          rw [e1, e2, HX.out])⟩
        case measure => simp [intOf]; omega
    · obtain rfl : a = 0 := by omega
      have X := Lib.hid (digs_pos n (by omega))
      go_wp2
      go_ret
      exact ⟨ret_strF (by rw [← X.out, ← D.out]; exact bytes_cat [45] acc), rfl⟩
theorem specFmtZero (w : World) :
    Calls Tryz.prog 52 #[.int .i64 0] w fun e w' => e = .returned (.string ⟨#[48]⟩) ∧ w = w' := by
  go_enter Tryz.func52, Tryz.ntmps52
  go_wp2
  go_loop [3, 4] (fun _ x => x = .int .i64 0) (fun _ x => (intOf x).toNat)
  case atStart => exact rfl
  case round =>
    obtain rfl := hrel
    go_wp2
    go_ret
    exact ⟨rfl, rfl⟩
/-- THE SPECIFICATION's FormatInt, AT EVERY int. -/
theorem specFmt (n : Int) (w : World) (h0 : -9223372036854775808 ≤ n) (h1 : n ≤ 9223372036854775807) :
    Calls Tryz.prog 52 #[.int .i64 n] w fun e w' => e = .returned (.string ⟨(Lib.itoa n).toArray⟩) ∧ w = w' := by
  by_cases hz : n = 0
  · subst hz
    have e : Lib.itoa 0 = [48] := by
      rw [show (0 : Int) = ((0 : Nat) : Int) from rfl, Lib.itoa_nonneg, Lib.decDigits_one (by omega)]; rfl
    rw [e]
    exact specFmtZero w
  · by_cases hp : 0 < n
    · obtain ⟨a, rfl⟩ : ∃ a : Nat, n = a := ⟨n.toNat, by omega⟩
      rw [Lib.itoa_nonneg]
      exact specFmtPos a w (by omega) (by omega)
    · obtain ⟨a, rfl⟩ : ∃ a : Nat, n = -(a : Int) := ⟨(-n).toNat, by omega⟩
      rw [Lib.itoa_neg a (by omega)]
      exact specFmtNeg a w (by omega) (by omega)
end Go.Proofs.YtikgcogiiohahaaGreatDoor

/-
  The library's contracts at this translation, in plain words (by program out of the kit's own laying).
-/
namespace Go.Proofs
open Go.Shelf
def Tryz.lays129_ren : Go.Shelf.Ren := ⟨fun | 129 => 98 | n => n, fun | 53 => 97 | 3 => 3 | 4 => 4 | 46 => 106 | 5 => 5 | 9 => 9 | n => n, fun | n => n⟩
def Tryz.lays317_ren : Go.Shelf.Ren := ⟨fun | 317 => 97 | n => n, fun | 3 => 3 | 46 => 106 | n => n, fun | n => n⟩
def Tryz.lays318_ren : Go.Shelf.Ren := ⟨fun | 318 => 99 | n => n, fun | 3 => 3 | 4 => 4 | n => n, fun | n => n⟩
def Tryz.lays283_ren : Go.Shelf.Ren := ⟨fun | 283 => 93 | n => n, fun | 3 => 3 | 9 => 9 | 4 => 4 | n => n, fun | n => n⟩
def Tryz.laysM284_ren : Go.Shelf.Ren := ⟨fun | 284 => 94 | 129 => 98 | 317 => 97 | 318 => 99 | n => n, fun | 53 => 97 | 3 => 3 | 212 => 103 | 0 => 0 | 4 => 4 | 46 => 106 | 5 => 5 | 9 => 9 | n => n, fun | 17 => 0 | n => n⟩
def Tryz.lays285_ren : Go.Shelf.Ren := ⟨fun | 285 => 95 | n => n, fun | 37 => 81 | 53 => 97 | 3 => 3 | 4 => 4 | 51 => 104 | 9 => 9 | 5 => 5 | 0 => 0 | n => n, fun | n => n⟩
def Tryz.laysM246_ren : Go.Shelf.Ren := ⟨fun | 246 => 92 | 283 => 93 | 284 => 94 | 285 => 95 | 286 => 96 | 129 => 98 | 317 => 97 | 318 => 99 | 319 => 100 | 320 => 101 | 337 => 102 | 338 => 103 | n => n, fun | 2 => 2 | 3 => 3 | 9 => 9 | 4 => 4 | 171 => 96 | 0 => 0 | 53 => 97 | 37 => 81 | 5 => 5 | 173 => 100 | 212 => 103 | 51 => 104 | 20 => 20 | 213 => 105 | 46 => 106 | 232 => 109 | 233 => 110 | n => n, fun | 17 => 0 | 18 => 1 | 19 => 2 | n => n⟩
def Tryz.lays246_ren : Go.Shelf.Ren := ⟨fun | 246 => 92 | 283 => 93 | 284 => 94 | 285 => 95 | 286 => 96 | 129 => 98 | 317 => 97 | 318 => 99 | 319 => 100 | 320 => 101 | 337 => 102 | 338 => 103 | n => n, fun | 2 => 2 | 3 => 3 | 9 => 9 | 4 => 4 | 171 => 96 | 0 => 0 | 53 => 97 | 37 => 81 | 5 => 5 | 173 => 100 | 212 => 103 | 51 => 104 | 20 => 20 | 213 => 105 | 46 => 106 | 232 => 109 | 233 => 110 | n => n, fun | 17 => 0 | 18 => 1 | 19 => 2 | n => n⟩
def Tryz.laysM243_ren : Go.Shelf.Ren := ⟨fun | 243 => 91 | 246 => 92 | 283 => 93 | 284 => 94 | 285 => 95 | 286 => 96 | 129 => 98 | 317 => 97 | 318 => 99 | 319 => 100 | 320 => 101 | 337 => 102 | 338 => 103 | n => n, fun | 3 => 3 | 9 => 9 | 2 => 2 | 4 => 4 | 171 => 96 | 0 => 0 | 53 => 97 | 37 => 81 | 5 => 5 | 173 => 100 | 212 => 103 | 51 => 104 | 20 => 20 | 213 => 105 | 46 => 106 | 232 => 109 | 233 => 110 | n => n, fun | 17 => 0 | 18 => 1 | 19 => 2 | n => n⟩
def Tryz.lays243_ren : Go.Shelf.Ren := ⟨fun | 243 => 91 | 246 => 92 | 283 => 93 | 284 => 94 | 285 => 95 | 286 => 96 | 129 => 98 | 317 => 97 | 318 => 99 | 319 => 100 | 320 => 101 | 337 => 102 | 338 => 103 | n => n, fun | 3 => 3 | 9 => 9 | 2 => 2 | 4 => 4 | 171 => 96 | 0 => 0 | 53 => 97 | 37 => 81 | 5 => 5 | 173 => 100 | 212 => 103 | 51 => 104 | 20 => 20 | 213 => 105 | 46 => 106 | 232 => 109 | 233 => 110 | n => n, fun | 17 => 0 | 18 => 1 | 19 => 2 | n => n⟩
def Tryz.laysM171_ren : Go.Shelf.Ren := ⟨fun | 171 => 88 | 243 => 91 | 246 => 92 | 283 => 93 | 284 => 94 | 285 => 95 | 286 => 96 | 129 => 98 | 317 => 97 | 318 => 99 | 319 => 100 | 320 => 101 | 337 => 102 | 338 => 103 | n => n, fun | 3 => 3 | 9 => 9 | 2 => 2 | 4 => 4 | 171 => 96 | 0 => 0 | 53 => 97 | 37 => 81 | 5 => 5 | 173 => 100 | 212 => 103 | 51 => 104 | 20 => 20 | 213 => 105 | 46 => 106 | 232 => 109 | 233 => 110 | n => n, fun | 17 => 0 | 18 => 1 | 19 => 2 | n => n⟩
theorem Tryz.laysM171 : Go.Proofs.LaysM.n171 Tryz.prog Tryz.laysM171_ren := {
  mixed := by kernel_rfl
  f129 := Tryz.func98.trans (congrArg some (by kernel_rfl))
  f171 := Tryz.func88.trans (congrArg some (by kernel_rfl))
  f243 := Tryz.func91.trans (congrArg some (by kernel_rfl))
  f246 := Tryz.func92.trans (congrArg some (by kernel_rfl))
  f283 := Tryz.func93.trans (congrArg some (by kernel_rfl))
  f284 := Tryz.func94.trans (congrArg some (by kernel_rfl))
  f285 := Tryz.func95.trans (congrArg some (by kernel_rfl))
  f286 := Tryz.func96.trans (congrArg some (by kernel_rfl))
  f317 := Tryz.func97.trans (congrArg some (by kernel_rfl))
  f318 := Tryz.func99.trans (congrArg some (by kernel_rfl))
  f319 := Tryz.func100.trans (congrArg some (by kernel_rfl))
  f320 := Tryz.func101.trans (congrArg some (by kernel_rfl))
  f337 := Tryz.func102.trans (congrArg some (by kernel_rfl))
  f338 := Tryz.func103.trans (congrArg some (by kernel_rfl))
  t0 := Tryz.underlying0
  a0 := Tryz.isAgg0
  z0 := Tryz.sizeOf0
  v0 := Tryz.zeroValue0
  t2 := Tryz.underlying2
  a2 := Tryz.isAgg2
  z2 := Tryz.sizeOf2
  v2 := Tryz.zeroValue2
  t3 := Tryz.underlying3
  a3 := Tryz.isAgg3
  z3 := Tryz.sizeOf3
  v3 := Tryz.zeroValue3
  t4 := Tryz.underlying4
  a4 := Tryz.isAgg4
  z4 := Tryz.sizeOf4
  v4 := Tryz.zeroValue4
  t5 := Tryz.underlying5
  a5 := Tryz.isAgg5
  z5 := Tryz.sizeOf5
  v5 := Tryz.zeroValue5
  t9 := Tryz.underlying9
  a9 := Tryz.isAgg9
  z9 := Tryz.sizeOf9
  v9 := Tryz.zeroValue9
  t20 := Tryz.underlying20
  a20 := Tryz.isAgg20
  z20 := Tryz.sizeOf20
  v20 := Tryz.zeroValue20
  t37 := Tryz.underlying81
  a37 := Tryz.isAgg81
  z37 := Tryz.sizeOf81
  v37 := Tryz.zeroValue81
  t46 := Tryz.underlying106
  a46 := Tryz.isAgg106
  z46 := Tryz.sizeOf106
  v46 := Tryz.zeroValue106
  t51 := Tryz.underlying104
  a51 := Tryz.isAgg104
  z51 := Tryz.sizeOf104
  v51 := Tryz.zeroValue104
  t53 := Tryz.underlying97
  a53 := Tryz.isAgg97
  z53 := Tryz.sizeOf97
  v53 := Tryz.zeroValue97
  t171 := Tryz.underlying96
  a171 := Tryz.isAgg96
  z171 := Tryz.sizeOf96
  v171 := Tryz.zeroValue96
  t173 := Tryz.underlying100
  a173 := Tryz.isAgg100
  z173 := Tryz.sizeOf100
  v173 := Tryz.zeroValue100
  t212 := Tryz.underlying103
  a212 := Tryz.isAgg103
  z212 := Tryz.sizeOf103
  v212 := Tryz.zeroValue103
  t213 := Tryz.underlying105
  a213 := Tryz.isAgg105
  z213 := Tryz.sizeOf105
  t232 := Tryz.underlying109
  a232 := Tryz.isAgg109
  z232 := Tryz.sizeOf109
  v232 := Tryz.zeroValue109
  t233 := Tryz.underlying110
  a233 := Tryz.isAgg110
  z233 := Tryz.sizeOf110
  v233 := Tryz.zeroValue110
  g17 := by kernel_rfl
  g18 := by kernel_rfl
  g19 := by kernel_rfl
  i0 := by kernel_rfl
  i2 := by kernel_rfl
  i3 := by kernel_rfl
  i4 := by kernel_rfl
  i5 := by kernel_rfl
  i9 := by kernel_rfl
  i20 := by kernel_rfl
  i37 := by kernel_rfl
  i46 := by kernel_rfl
  i51 := by kernel_rfl
  i53 := by kernel_rfl
  i171 := by kernel_rfl
  i173 := by kernel_rfl
  i212 := by kernel_rfl
  i232 := by kernel_rfl
  i233 := by kernel_rfl
  m17 := by kernel_rfl
  m18 := by kernel_rfl
  m19 := by kernel_rfl }
open Go.RowKit Go.Sort Go.Lib in
theorem Tryz.strconv_Itoa (n : Int) (h0 : -9223372036854775808 ≤ n) (h1 : n ≤ 9223372036854775807) (w : World) (htab : Lib.TabIs Tryz.prog w "internal/strconv.uint64pow10" .u64 Lib.pow10Tab) :
    Calls Tryz.prog 88 #[.int .i64 n] w fun e w' => e = .returned (.string ⟨(Lib.itoa n).toArray⟩) ∧ ∃ k os, w' = grow (w.drewN k) os := Any.strconv_Itoa Tryz.laysM171 n h0 h1 w htab
def Tryz.lays171_ren : Go.Shelf.Ren := ⟨fun | 171 => 88 | 243 => 91 | 246 => 92 | 283 => 93 | 284 => 94 | 285 => 95 | 286 => 96 | 129 => 98 | 317 => 97 | 318 => 99 | 319 => 100 | 320 => 101 | 337 => 102 | 338 => 103 | n => n, fun | 3 => 3 | 9 => 9 | 2 => 2 | 4 => 4 | 171 => 96 | 0 => 0 | 53 => 97 | 37 => 81 | 5 => 5 | 173 => 100 | 212 => 103 | 51 => 104 | 20 => 20 | 213 => 105 | 46 => 106 | 232 => 109 | 233 => 110 | n => n, fun | 17 => 0 | 18 => 1 | 19 => 2 | n => n⟩
def Tryz.lays109_ren : Go.Shelf.Ren := ⟨fun | 109 => 90 | n => n, fun | 31 => 24 | 9 => 9 | 3 => 3 | 0 => 0 | 4 => 4 | n => n, fun | n => n⟩
def Tryz.lays110_ren : Go.Shelf.Ren := ⟨fun | 110 => 85 | 109 => 90 | n => n, fun | 31 => 24 | 9 => 9 | 4 => 4 | 3 => 3 | 0 => 0 | n => n, fun | n => n⟩
end Go.Proofs

/- The text of an integer: the program's function. -/
namespace Go.Proofs.YtikgcogiiohahaaGreatDoor
set_option maxRecDepth 100000
open Go.RowKit

theorem implFmt (n : Int) (w : World) (h0 : -9223372036854775808 ≤ n) (h1 : n ≤ 9223372036854775807) (htab : Lib.TabIs Tryz.prog w "internal/strconv.uint64pow10" .u64 Lib.pow10Tab) :
    Calls Tryz.prog 80 #[.int .i64 n] w fun e w' => e = .returned (.string ⟨(Lib.itoa n).toArray⟩) ∧ Below w.heap.size w w' := by
  have H := Lib.hid htab
  clear htab
  go_enter Tryz.func80, Tryz.ntmps80
  go_wp2_with fail
  refine (Tryz.strconv_Itoa n h0 h1 _ H.out).mono ?_
  rintro e w1 ⟨rfl, k, os, rfl⟩
  go_wp2_with fail
  go_ret
  exact ⟨rfl, Lib.below_grow _ w (Nat.le_refl _) k os⟩
end Go.Proofs.YtikgcogiiohahaaGreatDoor

/- The implicit class of a vector, both sides. -/
namespace Go.Proofs.YtikgcogiiohahaaGreatDoor
open Go.RowKit
set_option maxRecDepth 100000
set_option linter.unusedVariables false

def nameB (k : Int) : ByteArray := if k = 0 then ⟨#[78, 85, 76, 76]⟩ else if k = 1 then ⟨#[108, 111, 103, 105, 99, 97, 108]⟩ else if k = 2 then ⟨#[110, 117, 109, 101, 114, 105, 99]⟩ else if k = 3 then ⟨#[99, 104, 97, 114, 97, 99, 116, 101, 114]⟩ else if k = 4 then ⟨#[108, 105, 115, 116]⟩ else ⟨#[102, 117, 110, 99, 116, 105, 111, 110]⟩
noncomputable def clsV (v : Vec) : List ByteArray := match bB (ValidV v), v with
  | true, .mk k _ _ _ cls _ _ _ => if cls.length = 0 then [nameB k] else cls
  | false, _ => []
/-- What both sides answer: a list of texts in a block of its own. -/
def ClassAns (v : Vec) (w : World) (e : Ending) (w' : World) : Prop := ∃ a c F, e = .returned (.slice a (clsV v).length c) ∧ OwnTxs w' a (clsV v) F ∧ F.Nodup ∧ (∀ b ∈ F, w.heap.size ≤ b ∧ b < w'.heap.size) ∧ Below w.heap.size w w'
end Go.Proofs.YtikgcogiiohahaaGreatDoor

/- Lemmas for laws whose result lies in memory. -/
namespace Go.Proofs.YtikgcogiiohahaaGreatDoor
open Go.RowKit
set_option maxRecDepth 100000
set_option linter.unusedVariables false

theorem sumN_le2 {f g : Nat → Nat} {n : Nat} (h : ∀ i, i < n → f i ≤ 3 * g i + 3) : sumN f n ≤ 3 * sumN g n + 3 * n := by
  induction n with
  | zero => simp [sumN]
  | succ n ih =>
    have h1 := ih (fun i hi => h i (by omega))
    have h2 := h n (by omega)
    simp only [sumN]
    omega
theorem cntM_le : ∀ (d : Nat) (v : Vec), cntM d v ≤ 3 * wV d v
  | 0, v => Nat.zero_le _
  | d + 1, .mk k items parts names cls levels code env => by
    rw [cntM_eq]
    have e : wV (d + 1) (.mk k items parts names cls levels code env) = (items.length + sumF (txtI items) items.length) + (parts.length + sumN (fun i => wV d (parts.getD i noV)) parts.length) + (names.length + sumF (txtS names) names.length) + (cls.length + sumF (txtS cls) cls.length) + (levels.length + sumF (txtS levels) levels.length) := rfl
    rw [e]
    have h : cntP d parts parts.length ≤ 3 * sumN (fun i => wV d (parts.getD i noV)) parts.length + 3 * parts.length := sumN_le2 (fun i _ => by have := cntM_le d (parts.getD i noV); omega)
    omega
theorem OwnTxs.texts {w : World} {a : Option Addr} {l : List ByteArray} {F : List Nat} {hi : Nat} (h : OwnTxs w a l F) (hF : ∀ b ∈ F, b < hi) : TextsAt 0 hi w a l := h.at_ (fun b hb => ⟨Nat.zero_le _, hF b hb⟩)
end Go.Proofs.YtikgcogiiohahaaGreatDoor

/- Laws whose argument is a vector and whose result is one. -/
namespace Go.Proofs.YtikgcogiiohahaaGreatDoor
open Go.RowKit
set_option maxRecDepth 100000
set_option linter.unusedVariables false

theorem VecAt.agg {lo hi : Nat} {w : World} {d : Nat} {v : Vec} {y : Value} (h : VecAt lo hi w d v y) : ∃ (k : Int) (a1 : Option Addr) (n1 m1 : Nat) (a2 : Option Addr) (n2 m2 : Nat) (a3 : Option Addr) (n3 m3 : Nat) (a4 : Option Addr) (n4 m4 : Nat) (a5 : Option Addr) (n5 m5 : Nat) (code env : Int), y = .agg #[.int .i64 k, .slice a1 n1 m1, .slice a2 n2 m2, .slice a3 n3 m3, .slice a4 n4 m4, .slice a5 n5 m5, .int .i64 code, .int .i64 env] := by
  obtain ⟨k, items, parts, names, cls, levels, code, env⟩ := v
  obtain ⟨d', ai, ci, ap, cp, an, cn, ac, cc, al, cl, ed, e, _⟩ := vecAt_open h
  exact ⟨_, _, _, _, _, _, _, _, _, _, _, _, _, _, _, _, _, _, e⟩
theorem toVecR (d : Nat) (v : Vec) (x : Value) (lo hi : Nat) (w : World) (hv : VecAt lo hi w d v x) (hhi : hi ≤ w.heap.size) (hsm : Small d v) :
    Calls Tryz.prog 6 #[x] w (ResV d v w) := by
  refine ((toAll d).out v x lo hi w hv hhi hsm).mono ?_
  rintro e w' ⟨y, F, rfl, ho, hn, hr, hb⟩
  exact ⟨y, rfl, ⟨F, ho, hn, hr⟩, hb⟩
theorem markOwnX (d : Nat) (V : Vec) (y : Value) (lo hi : Nat) (w : World) (h : Own d V y lo hi w) (hh : hi ≤ w.heap.size) (hs : Small d V) (hc : 1 + cntM d V ≤ 8000000) :
    Calls Tryz.prog 9 #[y, .int .i64 1] w fun e w' => e = .returned (.int .i64 ((1 + cntM d V : Nat) : Int)) ∧ Within lo hi w w' := by
  refine (markOwn d V y lo hi w h hh hs hc).mono ?_
  rintro e w' ⟨rfl, _, t⟩
  exact ⟨rfl, t⟩
/-- The zero value, or a vector of items and names that fit. -/
def PlainN (V : Vec) : Prop := V = noV ∨ ∃ k l names, V = mkN k l names ∧ (-9223372036854775808 ≤ k ∧ k ≤ 9223372036854775807) ∧ l.length ≤ 40 ∧ (∀ x ∈ l, InB x ∧ x.t.size ≤ 1048576) ∧ names.length ≤ 1048576 ∧ ∀ s ∈ names, s.size ≤ 1048576
theorem PlainN.small {V : Vec} (h : PlainN V) : Small 1 V := by
  rcases h with rfl | ⟨k, l, names, rfl, hk, hl, hx, hn, hs⟩
  · exact small_noV
  · exact small_mkN (by omega) (fun x h => (hx x h).2) hn hs
theorem PlainN.fits {V : Vec} (h : PlainN V) : Fits 1 V := by
  rcases h with rfl | ⟨k, l, names, rfl, hk, hl, hx, hn, hs⟩
  · exact fits_noV
  · exact fits_mkN hk (by omega) (fun x h => (hx x h).1) hn hs
theorem PlainN.cnt {V : Vec} (h : PlainN V) : 1 + cntM 1 V ≤ 8000000 := by
  rcases h with rfl | ⟨k, l, names, rfl, hk, hl, hx, hn, hs⟩
  · rw [cnt_noV]; omega
  · rw [cnt_mkN]; omega
end Go.Proofs.YtikgcogiiohahaaGreatDoor

/- Rows of vectors that a call builds by append. -/
namespace Go.Proofs.YtikgcogiiohahaaGreatDoor
open Go.RowKit
set_option maxRecDepth 100000
set_option linter.unusedVariables false

def cl8 : Value → List Value
  | .agg cs => cs.toList
  | _ => []
def Is8 (v : Value) : Prop := ∃ c0 c1 c2 c3 c4 c5 c6 c7, v = .agg #[c0, c1, c2, c3, c4, c5, c6, c7]
theorem OwnVec.is8 {w : World} {d : Nat} {v : Vec} {y : Value} {F : List Nat} (h : OwnVec w d v y F) : Is8 y := by
  obtain ⟨k, a1, n1, m1, a2, n2, m2, a3, n3, m3, a4, n4, m4, a5, n5, m5, code, env, rfl⟩ := h.agg
  exact ⟨_, _, _, _, _, _, _, _, rfl⟩
theorem flat8_at : ∀ (vals : List Value), (∀ v ∈ vals, Is8 v) → ∀ i, i < vals.length → ∃ c0 c1 c2 c3 c4 c5 c6 c7, vals.getD i undef = .agg #[c0, c1, c2, c3, c4, c5, c6, c7] ∧
    (vals.flatMap cl8)[i * 8]? = some c0 ∧ (vals.flatMap cl8)[i * 8 + 1]? = some c1 ∧ (vals.flatMap cl8)[i * 8 + 2]? = some c2 ∧ (vals.flatMap cl8)[i * 8 + 3]? = some c3 ∧ (vals.flatMap cl8)[i * 8 + 4]? = some c4 ∧ (vals.flatMap cl8)[i * 8 + 5]? = some c5 ∧ (vals.flatMap cl8)[i * 8 + 6]? = some c6 ∧ (vals.flatMap cl8)[i * 8 + 7]? = some c7
  | [], _, _, h => by cases h
  | v :: vals, h, 0, _ => by
    obtain ⟨c0, c1, c2, c3, c4, c5, c6, c7, rfl⟩ := h v (List.mem_cons_self ..)
    exact ⟨c0, c1, c2, c3, c4, c5, c6, c7, rfl, rfl, rfl, rfl, rfl, rfl, rfl, rfl, rfl⟩
  | v :: vals, h, i + 1, hi => by
    obtain ⟨d0, d1, d2, d3, d4, d5, d6, d7, rfl⟩ := h v (List.mem_cons_self ..)
    obtain ⟨c0, c1, c2, c3, c4, c5, c6, c7, e, m⟩ := flat8_at vals (fun x hx => h x (List.mem_cons_of_mem _ hx)) i (by simpa using hi)
    refine ⟨c0, c1, c2, c3, c4, c5, c6, c7, by simpa using e, ?_⟩
    have key : ∀ j, ((Value.agg #[d0, d1, d2, d3, d4, d5, d6, d7] :: vals).flatMap cl8)[(i + 1) * 8 + j]? = (vals.flatMap cl8)[i * 8 + j]? := fun j => by
      have e1 : (i + 1) * 8 + j = (i * 8 + j) + 8 := by omega
      rw [e1]; rfl
    have k0 := key 0
    simp only [Nat.add_zero] at k0
    rw [k0, key 1, key 2, key 3, key 4, key 5, key 6, key 7]
    exact m
/-- A slice of vectors, each with its own blocks. -/
def OwnParts (w : World) (d : Nat) (v : Value) (parts : List Vec) (F : List Nat) : Prop := ∃ ap cp, v = .slice ap parts.length cp ∧ parts.length ≤ cp ∧
  ((parts = [] ∧ F = []) ∨ ∃ b C, ∃ Fs : List (List Nat), F = b :: Fs.flatten ∧ Fs.length = parts.length ∧ ap = some ⟨b, 0, none⟩ ∧ w.heap[b]? = some (.cells C 31 (0, 0)) ∧ parts.length * 8 ≤ C.size ∧
    ∀ i, i < parts.length → ∃ val, OwnVec w d (parts.getD i noV) val (Fs.getD i []) ∧ Eight C i val)
/-- What a loop that appends vectors keeps. -/
structure RowV (w wr : World) (d : Nat) (parts : List Vec) (k : Nat) (v : Value) : Prop where
  ex : ∃ (vals : List Value) (Fs : List (List Nat)), vals.length = k ∧ Fs.length = k ∧ wr.ownsRow w.heap.size 31 8 v k (vals.flatMap cl8) ∧
    (∀ i, i < k → OwnVec wr d (parts.getD i noV) (vals.getD i undef) (Fs.getD i [])) ∧ Fs.flatten.Nodup ∧ (∀ b ∈ Fs.flatten, w.heap.size ≤ b ∧ b < wr.heap.size ∧ v.ownBlock ≠ some b)
  below : Below w.heap.size w wr
theorem RowV.start (w : World) (d : Nat) (parts : List Vec) : RowV w w d parts 0 (.slice none 0 0) :=
  ⟨⟨[], [], rfl, rfl, ⟨rfl, .inl ⟨rfl, rfl⟩⟩, fun i h => absurd h (Nat.not_lt_zero _), List.nodup_nil, fun b h => by cases h⟩, Below.refl _ _⟩
theorem RowV.is8 {vals : List Value} {k d : Nat} {parts : List Vec} {Fs : List (List Nat)} {wr : World} (hl : vals.length = k) (h : ∀ i, i < k → OwnVec wr d (parts.getD i noV) (vals.getD i undef) (Fs.getD i [])) : ∀ v ∈ vals, Is8 v := by
  intro v hv
  obtain ⟨i, hi, e⟩ := mem_getD (z := undef) hv
  rw [← e]
  exact (h i (by omega)).is8
theorem RowV.row {w wr : World} {d k : Nat} {parts : List Vec} {v : Value} (h : RowV w wr d parts k v) : ∃ xs, wr.ownsRow w.heap.size 31 8 v k xs := by
  obtain ⟨vals, Fs, _, _, hr, _⟩ := h.ex
  exact ⟨_, hr⟩
/-- Behind the copy of an element and the slice of one. -/
theorem RowV.keep {w wr w1 : World} {d k : Nat} {parts : List Vec} {v : Value} (h : RowV w wr d parts k v) (hb : Below wr.heap.size wr w1) : RowV w w1 d parts k v := by
  obtain ⟨vals, Fs, h1, h2, h3, h4, h5, h6⟩ := h.ex
  exact ⟨⟨vals, Fs, h1, h2, ownsRow_below h3 hb, fun i hi => (h4 i hi).kept _ _ _ _ (fun b hb' => hb.block b (h6 b (mem_flat (by omega) hb')).2.1), h5, fun b hb' => ⟨(h6 b hb').1, Nat.lt_of_lt_of_le (h6 b hb').2.1 hb.size, (h6 b hb').2.2⟩⟩, below_then h.below hb⟩
theorem RowV.next {w wr w1 w2 : World} {d k : Nat} {parts : List Vec} {v v' : Value} {c0 c1 c2 c3 c4 c5 c6 c7 : Value} {s1 : Nat} (h : RowV w wr d parts k v) (ho : Own d (parts.getD k noV) (.agg #[c0, c1, c2, c3, c4, c5, c6, c7]) s1 w1.heap.size w1) (hs : wr.heap.size ≤ s1) (hb : Below wr.heap.size wr w1)
    (hg : (w1.alloc (.cells #[c0, c1, c2, c3, c4, c5, c6, c7] 31)).grownBy w2 v.ownBlock) (hr : ∀ xs, wr.ownsRow w.heap.size 31 8 v k xs → w2.ownsRow w.heap.size 31 8 v' (k + 1) (xs ++ [c0, c1, c2, c3, c4, c5, c6, c7])) (hv : v'.ownBlock = v.ownBlock ∨ v'.ownBlock = some (w1.alloc (.cells #[c0, c1, c2, c3, c4, c5, c6, c7] 31)).heap.size) : RowV w w2 d parts (k + 1) v' := by
  obtain ⟨vals, Fs, h1, h2, h3, h4, h5, h6⟩ := h.ex
  obtain ⟨F, g1, g2, g3⟩ := ho.out
  have hsz : (w1.alloc (.cells #[c0, c1, c2, c3, c4, c5, c6, c7] 31)).heap.size = w1.heap.size + 1 := by simp
  have hbs := hb.size
  have hown : ∀ j, v.ownBlock = some j → w.heap.size ≤ j ∧ j < wr.heap.size := h3.lt
  have keep : ∀ b, b < w1.heap.size → v.ownBlock ≠ some b → w2.heap[b]? = w1.heap[b]? := fun b hb1 hb2 => (hg.block b (by omega) (fun e => hb2 e.symm)).trans ((below1 w1 _).block b hb1)
  have old : ∀ b ∈ Fs.flatten, w2.heap[b]? = wr.heap[b]? := fun b hb' => (keep b (by have := h6 b hb'; omega) (h6 b hb').2.2).trans (hb.block b (h6 b hb').2.1)
  have new : ∀ b ∈ F, w2.heap[b]? = w1.heap[b]? := fun b hb' => keep b (g3 b hb').2 (fun e => by have := hown b e; have := g3 b hb'; omega)
  refine ⟨⟨vals ++ [Value.agg #[c0, c1, c2, c3, c4, c5, c6, c7]], Fs ++ [F], by simp [h1], by simp [h2], ?_, fun i hi => ?_, ?_, fun b hb' => ?_⟩, ?_⟩
  · have := hr _ h3
    rw [List.flatMap_append]
    exact this
  · by_cases e : i = k
    · subst e
      have e1 : (vals ++ [Value.agg #[c0, c1, c2, c3, c4, c5, c6, c7]]).getD i undef = .agg #[c0, c1, c2, c3, c4, c5, c6, c7] := by rw [List.getD_eq_getElem?_getD, List.getElem?_append_right (by omega)]; simp [h1]
      have e2 : (Fs ++ [F]).getD i [] = F := by rw [List.getD_eq_getElem?_getD, List.getElem?_append_right (by omega)]; simp [h2]
      rw [e1, e2]
      exact g1.kept _ _ _ _ new
    · have e1 : (vals ++ [Value.agg #[c0, c1, c2, c3, c4, c5, c6, c7]]).getD i undef = vals.getD i undef := by rw [List.getD_eq_getElem?_getD, List.getD_eq_getElem?_getD, List.getElem?_append_left (by omega)]
      have e2 : (Fs ++ [F]).getD i [] = Fs.getD i [] := by rw [List.getD_eq_getElem?_getD, List.getD_eq_getElem?_getD, List.getElem?_append_left (by omega)]
      rw [e1, e2]
      exact (h4 i (by omega)).kept _ _ _ _ (fun b hb' => old b (mem_flat (by omega) hb'))
  · rw [List.flatten_append, List.nodup_append]
    refine ⟨h5, by simpa using g2, fun x hx y hy e => ?_⟩
    have h7 := h6 x hx
    have h8 := g3 y (by simpa using hy)
    omega
  · have hw2 := hg.size
    rw [List.flatten_append, List.mem_append] at hb'
    rcases hb' with hb' | hb'
    · have h7 := h6 b hb'
      refine ⟨h7.1, by omega, fun e => ?_⟩
      rcases hv with hv | hv
      · exact h7.2.2 (hv ▸ e)
      · rw [e, hsz] at hv; have := Option.some.inj hv; omega
    · have hb'' : b ∈ F := by simpa using hb'
      have h7 := g3 b hb''
      have h8 := h.below.size
      refine ⟨by omega, by omega, fun e => ?_⟩
      rcases hv with hv | hv
      · have := hown b (hv ▸ e); omega
      · rw [e, hsz] at hv; have := Option.some.inj hv; omega
  · have h8 := h.below.size
    exact ((below_then h.below hb).alloc (by omega) _).grown hg (by omega) (fun r hr' => (hown r hr').1)
theorem RowV.parts {w wr : World} {d : Nat} {parts : List Vec} {v : Value} (h : RowV w wr d parts parts.length v) : ∃ F, OwnParts wr d v parts F ∧ F.Nodup ∧ ∀ b ∈ F, w.heap.size ≤ b ∧ b < wr.heap.size := by
  obtain ⟨vals, Fs, h1, h2, ⟨hl, h3⟩, h4, h5, h6⟩ := h.ex
  rcases h3 with ⟨rfl, h0⟩ | ⟨g, cap, cur, rfl, hB, hg, hc, _, hs, ht⟩
  · have hp : parts = [] := List.eq_nil_of_length_eq_zero h0
    subst hp
    exact ⟨[], ⟨none, 0, rfl, Nat.le_refl _, .inl ⟨rfl, rfl⟩⟩, List.nodup_nil, fun _ hb => by cases hb⟩
  · have hgl := (Array.getElem?_eq_some_iff.1 hg).1
    refine ⟨g :: Fs.flatten, ⟨_, cap, rfl, hc, .inr ⟨g, cur, Fs, rfl, h2, rfl, hg, by omega, fun i hi => ⟨_, h4 i hi, ?_⟩⟩⟩, ?_, ?_⟩
    · obtain ⟨c0, c1, c2, c3, c4, c5, c6, c7, e, m0, m1, m2, m3, m4, m5, m6, m7⟩ := flat8_at vals (RowV.is8 h1 h4) i (by omega)
      have key : ∀ j, j < parts.length * 8 → cur[j]? = (vals.flatMap cl8)[j]? := fun j hj => by
        rw [← ht, List.getElem?_take_of_lt hj, Array.getElem?_toList]
      refine ⟨c0, c1, c2, c3, c4, c5, c6, c7, e, ?_, ?_, ?_, ?_, ?_, ?_, ?_, ?_⟩
      · rw [key _ (by omega)]; exact m0
      · rw [key _ (by omega)]; exact m1
      · rw [key _ (by omega)]; exact m2
      · rw [key _ (by omega)]; exact m3
      · rw [key _ (by omega)]; exact m4
      · rw [key _ (by omega)]; exact m5
      · rw [key _ (by omega)]; exact m6
      · rw [key _ (by omega)]; exact m7
    · rw [List.nodup_cons]
      exact ⟨fun hm => (h6 g hm).2.2 rfl, h5⟩
    · intro b hb
      rcases List.mem_cons.1 hb with rfl | hb
      · exact ⟨hB, hgl⟩
      · exact ⟨(h6 b hb).1, (h6 b hb).2.1⟩
end Go.Proofs.YtikgcogiiohahaaGreatDoor

/- The program's copies of vectors. -/
namespace Go.Proofs.YtikgcogiiohahaaGreatDoor
open Go.RowKit
set_option maxRecDepth 100000
set_option linter.unusedVariables false

theorem OwnParts.kept {w w1 : World} {d : Nat} {v : Value} {parts : List Vec} {F : List Nat} (h : OwnParts w d v parts F) (k : ∀ b ∈ F, w1.heap[b]? = w.heap[b]?) : OwnParts w1 d v parts F := by
  obtain ⟨ap, cp, e, hc, h⟩ := h
  refine ⟨ap, cp, e, hc, h.imp id ?_⟩
  rintro ⟨b, C, Fs, rfl, hl, ea, hb, hn, hp⟩
  exact ⟨b, C, Fs, rfl, hl, ea, (k b (by simp)).trans hb, hn, fun i hi => by
    obtain ⟨val, hv, m⟩ := hp i hi
    exact ⟨val, hv.kept _ _ _ _ (fun b' hb' => k b' (by have := mem_flat (by omega) hb'; simp only [List.mem_cons]; exact .inr this)), m⟩⟩
/-- A copy of items. -/
def CopyIt (base : Nat) (l : List It) (v : Value) (w : World) : Prop := ∃ sa sc F, v = .slice sa l.length sc ∧ OwnIts w sa l F ∧ F.Nodup ∧ (∀ b ∈ F, base ≤ b ∧ b < w.heap.size) ∧ l.length ≤ sc
theorem itCells_in {w : World} {lo hi b off : Nat} {l : List It} (h : ItemsAt lo hi w (some ⟨b, off, none⟩) l) : ∀ j u, (itCells l)[j]? = some u → w.cell? ((⟨b, off, none⟩ : Addr).add j) = some u := by
  intro j u hj
  have hlt : j < l.length * 3 := by have := (List.getElem?_eq_some_iff.1 hj).1; rw [itCells_len] at this; exact this
  obtain ⟨i, r, hr, rfl⟩ : ∃ i r, r < 3 ∧ j = i * 3 + r := ⟨j / 3, j % 3, Nat.mod_lt _ (by decide), by omega⟩
  have hi : i < l.length := by omega
  obtain ⟨b', off', e, _, _, c0, c1, c2⟩ := h i _ (List.getElem?_eq_getElem hi)
  simp only [Option.some.injEq, Addr.mk.injEq, and_true] at e
  obtain ⟨rfl, rfl⟩ := e
  obtain ⟨m0, m1, m2⟩ := itCells_at l i hi
  have e1 : l.getD i noI = l[i] := by simp [List.getD_eq_getElem?_getD, List.getElem?_eq_getElem hi]
  unfold txtI at m2
  rw [e1] at m0 m1 m2
  rw [addr_add]
  rcases (show r = 0 ∨ r = 1 ∨ r = 2 by omega) with rfl | rfl | rfl
  · simp only [Nat.add_zero] at hj ⊢
    rw [m0] at hj; rw [c0]; exact hj
  · rw [m1] at hj; rw [← Nat.add_assoc, c1]; exact hj
  · rw [m2] at hj; rw [← Nat.add_assoc, c2]; exact hj
theorem items_some {w : World} {lo hi : Nat} {a : Option Addr} {l : List It} (h : ItemsAt lo hi w a l) (hpos : 0 < l.length) : ∃ b off, a = some ⟨b, off, none⟩ := by
  obtain ⟨b, off, e, _⟩ := h 0 _ (List.getElem?_eq_getElem hpos)
  exact ⟨b, off, e⟩
/-- The contracts at depth d: one vector, and a slice of them. -/
structure ICV (d : Nat) : Prop where
  out : ∀ (v : Vec) (val : Value) (lo hi : Nat) (w : World), VecAt lo hi w d v val → hi ≤ w.heap.size → Small d v → Calls Tryz.prog 70 #[val] w (ResV d v w)
def ResP (d : Nat) (parts : List Vec) (w : World) (e : Ending) (w' : World) : Prop := ∃ v F, e = .returned v ∧ OwnParts w' d v parts F ∧ F.Nodup ∧ (∀ b ∈ F, w.heap.size ≤ b ∧ b < w'.heap.size) ∧ Below w.heap.size w w' ∧ ∃ xs, w'.ownsRow w.heap.size 31 8 v parts.length xs
structure ICS (d : Nat) : Prop where
  out : ∀ (parts : List Vec) (a : Option Addr) (c lo hi : Nat) (w : World), VecsAt lo hi w d a parts → hi ≤ w.heap.size → (∀ i, i < parts.length → Small d (parts.getD i noV)) → parts.length ≤ 1048576 → Calls Tryz.prog 71 #[.slice a parts.length c] w (ResP d parts w)
end Go.Proofs.YtikgcogiiohahaaGreatDoor

/- NotVector as data. -/
namespace Go.Proofs.YtikgcogiiohahaaGreatDoor
open Go.RowKit
set_option maxRecDepth 100000
set_option linter.unusedVariables false

def notIt (x : It) : It := logI (nL (truthI x))
/-- What NotVector answers. -/
noncomputable def notV (v : Vec) : Vec := match bB (ValidV v ∧ Counts v), v with
  | true, .mk _ items _ names _ _ _ _ => mkN 1 (itF (fun i => notIt (items.getD i noI)) items.length) names
  | false, _ => noV
noncomputable def notS (v : Vec) : ByteArray := match bB (ValidV v), bB (Counts v) with
  | false, _ => badB
  | true, false => nonLogB
  | true, true => ⟨#[]⟩
end Go.Proofs.YtikgcogiiohahaaGreatDoor

/- The elements of a vector as the parts of a list. -/
namespace Go.Proofs.YtikgcogiiohahaaGreatDoor
open Go.RowKit
set_option maxRecDepth 100000
set_option linter.unusedVariables false

/-- The elements of a vector as vectors. -/
def elems (v : Vec) : List Vec := match v with
  | .mk k items parts names cls levels code env => if k = 5 then [.mk k items parts names cls levels code env] else if k = 4 then parts else items.map (fun x => vecOf k [x])
/-- What elementsOf answers. -/
def ElmAns (v : Vec) (w : World) (e : Ending) (w' : World) : Prop := (∃ a c D, e = .returned (.slice a (elems v).length c) ∧ VecsAt w.heap.size w'.heap.size w' D a (elems v) ∧ ∀ i, i < (elems v).length → Small D ((elems v).getD i noV)) ∧ Below w.heap.size w w'
end Go.Proofs.YtikgcogiiohahaaGreatDoor

/- MissingIn of the program. -/
namespace Go.Proofs.YtikgcogiiohahaaGreatDoor
open Go.RowKit
set_option maxRecDepth 100000
set_option linter.unusedVariables false

def itemsV (v : Vec) : List It := match v with | .mk _ items _ _ _ _ _ _ => items
def namesV (v : Vec) : List ByteArray := match v with | .mk _ _ _ names _ _ _ _ => names
def OneMiss (p : Vec) : Prop := (itemsV p).length = 1 ∧ ((itemsV p).getD 0 noI).d = 0
noncomputable def missI (p : Vec) : Int := match bB (OneMiss p) with | true => 1 | false => 0
/-- An element whose single item, if missing, is nothing else. -/
def GoodE (p : Vec) : Prop := (itemsV p).length = 1 → ((itemsV p).getD 0 noI).d = 0 → (itemsV p).getD 0 noI = noI
/-- What MissingIn answers. -/
noncomputable def missV (v : Vec) : Vec := match bB (ValidV v) with | true => mkN 1 (itF (fun i => logI (missI ((elems v).getD i noV))) (elems v).length) (namesV v) | false => noV
noncomputable def missS (v : Vec) : ByteArray := match bB (ValidV v) with | true => ⟨#[]⟩ | false => badB
end Go.Proofs.YtikgcogiiohahaaGreatDoor

/- NotVector of the reference. -/
namespace Go.Proofs.YtikgcogiiohahaaGreatDoor
open Go.RowKit
set_option maxRecDepth 100000
set_option linter.unusedVariables false

/-- The ints while they are turned over, one by one. -/
def TurnL (w wr : World) (sa : Option Addr) (n k : Nat) (f : Nat → Int) : Prop :=
  n = 0 ∨ ∃ b C, sa = some ⟨b, 0, none⟩ ∧ w.heap.size + 2 ≤ b ∧ wr.heap[b]? = some (.cells C 3 (0, 0)) ∧ n ≤ C.size ∧ ∀ i, i < n → C[i]? = some (.int .i64 (if i < k then nL (f i) else f i))
theorem TurnL.start {w wr : World} {B : Nat} {sa : Option Addr} {n c : Nat} {f : Nat → Int} (h : wr.ownsRow B 3 1 (.slice sa n c) n (intsF f n)) (hB : w.heap.size + 2 ≤ B) : TurnL w wr sa n 0 f := by
  obtain ⟨_, h⟩ := h
  rcases h with ⟨e, h0⟩ | ⟨g, cap, cur, e, hg, hb, hc, _, hs, ht⟩
  · exact .inl h0
  · simp only [Value.slice.injEq] at e
    obtain ⟨rfl, _, rfl⟩ := e
    refine .inr ⟨g, cur, rfl, by omega, hb, by omega, fun i hi => ?_⟩
    have h1 : (cur.toList.take (n * 1))[i]? = (intsF f n)[i]? := by rw [ht]
    rw [List.getElem?_take_of_lt (by omega), Array.getElem?_toList] at h1
    rw [h1, if_neg (Nat.not_lt_zero i)]; unfold intsF; simp [hi]
theorem TurnL.ints {w wr : World} {sa : Option Addr} {n : Nat} {f : Nat → Int} (h : TurnL w wr sa n n f) : IntsAt wr.heap.size wr sa n (fun i => nL (f i)) := by
  rcases h with rfl | ⟨b, C, rfl, _, hb, hn, r⟩
  · exact fun i hi => absurd hi (Nat.not_lt_zero _)
  · intro i hi
    refine ⟨b, 0, rfl, (Array.getElem?_eq_some_iff.1 hb).1, ?_⟩
    rw [Nat.zero_add]
    have := r i hi
    rw [if_pos hi] at this
    exact cellOf hb this
end Go.Proofs.YtikgcogiiohahaaGreatDoor

/- Lengths and names of a recycled result, in the reference. -/
namespace Go.Proofs.YtikgcogiiohahaaGreatDoor
open Go.RowKit
set_option maxRecDepth 100000
set_option linter.unusedVariables false

def namesL (l0 l1 n : Nat) (names0 names1 : List ByteArray) : List ByteArray := if l0 = n ∧ 0 < names0.length then names0 else if l1 = n then names1 else []
def sizeL (m n : Nat) : Int := if m = 0 ∨ n = 0 then 0 else if max m n % min m n ≠ 0 then -1 else (max m n : Nat)
end Go.Proofs.YtikgcogiiohahaaGreatDoor

/- Lengths and names of a recycled result, in the program. -/
namespace Go.Proofs.YtikgcogiiohahaaGreatDoor
open Go.RowKit
set_option maxRecDepth 100000
set_option linter.unusedVariables false

def recN (m n : Nat) : Nat := if m = 0 ∨ n = 0 then 0 else max m n
/-- The names of a recycled result, as the program finds them. -/
def namesR (N : Nat) (names0 names1 : List ByteArray) : List ByteArray := if N = names0.length then names0 else if N = names1.length then names1 else []
end Go.Proofs.YtikgcogiiohahaaGreatDoor

/- recycleItems of the program. -/
namespace Go.Proofs.YtikgcogiiohahaaGreatDoor
open Go.RowKit
set_option maxRecDepth 100000
set_option linter.unusedVariables false

end Go.Proofs.YtikgcogiiohahaaGreatDoor

/- Summaries as data: the elements that are taken, folds, the answers. -/
namespace Go.Proofs.YtikgcogiiohahaaGreatDoor
open Go.RowKit
set_option maxRecDepth 100000
set_option linter.unusedVariables false

/-- "non-numeric argument", "no elements" -/
def nonNumB : ByteArray := ⟨#[110, 111, 110, 45, 110, 117, 109, 101, 114, 105, 99, 32, 97, 114, 103, 117, 109, 101, 110, 116]⟩
def noElB : ByteArray := ⟨#[110, 111, 32, 101, 108, 101, 109, 101, 110, 116, 115]⟩
/-- Is an element taken? -/
def keepI (drop : Bool) (x : It) : Bool := !drop || !(x.d == 0)
def pickL (drop : Bool) (l : List It) : List It := l.filter (keepI drop)
theorem mkI_int {n : Int} (h0 : -999999999 ≤ n) (h1 : n ≤ 999999999) : mkI n 1 = ⟨n, 1, ⟨#[]⟩⟩ := by
  rw [int_mk (by omega) (by omega)]
  unfold ofQ
  rw [Rat.num_intCast, Rat.den_intCast, if_pos ⟨h0, h1, by decide⟩]
  rfl
/-- A result that fits: no text, ints. -/
def GoodI (x : It) : Prop := InB x ∧ x.t = ⟨#[]⟩
theorem GoodI.t0 {x : It} (h : GoodI x) : x.t.size ≤ 9223372036854775807 := by rw [h.2]; exact Nat.zero_le _

def sumL (l : List It) : It := l.foldl addI (mkI 0 1)
def prodL (l : List It) : It := l.foldl mulI (mkI 1 1)
def meanL (l : List It) : It := divI (sumL l) (mkI l.length 1)
def sqI (m : It) (s x : It) : It := addI s (mulI (subI x m) (subI x m))
def varL (l : List It) : It := divI (l.foldl (sqI (meanL l)) (mkI 0 1)) (mkI ((l.length - 1 : Nat) : Int) 1)
/-- The running sums. -/
def runL (l : List It) : List It := itF (fun i => sumL (l.take (i + 1))) l.length
/-- The elements of which a summary is made, the problem, the answer. -/
noncomputable def smyL (drop : Bool) (v : Vec) : List It := match bB (ValidV v ∧ Counts v) with | true => pickL drop (itemsV v) | false => []
noncomputable def smyS (u : ByteArray) (v : Vec) : ByteArray := match bB (ValidV v), bB (Counts v) with | false, _ => badB | true, false => u | true, true => ⟨#[]⟩
noncomputable def smyV (S : List It → It) (drop : Bool) (v : Vec) : Vec := match bB (ValidV v ∧ Counts v) with | true => vecOf 2 [S (pickL drop (itemsV v))] | false => noV
theorem NumIt.t0 {x : It} (h : NumIt x) : x.t.size ≤ 9223372036854775807 := by rw [h.t]; exact Nat.zero_le _
end Go.Proofs.YtikgcogiiohahaaGreatDoor

/- A region that draws its order where two operations that change the world may come up at once: the orders as a tree. -/
namespace Go.Proofs.YtikgcogiiohahaaGreatDoor
set_option maxRecDepth 100000
open Go.RowKit
set_option linter.unusedVariables false

/-- An order, or an order behind which either of two operations comes up. -/
inductive Plan where
  | leaf (r : List (Nat × Bool))
  | fork (r : List (Nat × Bool)) (i : Nat) (p : Plan) (j : Nat) (q : Plan)
def Plan.cons (i : Nat) : Plan → Plan
  | .leaf r => .leaf ((i, false) :: r)
  | .fork r j p k q => .fork ((i, false) :: r) j p k q
def Plan.len : Plan → Nat
  | .leaf r => r.length
  | .fork r _ p _ _ => r.length + (p.len + 1)
section
variable {P : Program} {ops : Array Oper} {Q : Exit → Act → World → Prop} {S : World → Prop}
theorem wp_weak {Q' : Exit → Act → World → Prop} {o : Oper} {a : Act} {w : World} {K : Act → World → Prop} (hP : ∀ c a w, Q' (.panic c) a w → Q (.panic c) a w) (hL : LetsOut Q' → LetsOut Q) (hh : o.wp P a w K Q') : o.wp P a w K Q := by
  unfold Oper.wp at *
  generalize (execOp a.eval o).run P w = r at *
  cases r with
  | ok n w' =>
    cases n <;> simp only [Oper.upon] at hh ⊢ <;>
      first
        | exact hh
        | exact Calls.mono hh (fun e w'' he => by cases e <;> first | exact he | exact hP _ _ _ he | exact hL he)
  | halt x w' => cases x <;> simp only [Oper.upon] at hh ⊢ <;> first | exact hP _ _ _ hh | exact hh
theorem wpOp_weak {Q' : Exit → Act → World → Prop} {i : Nat} {a : Act} {w : World} {K : Act → World → Prop} (hP : ∀ c a w, Q' (.panic c) a w → Q (.panic c) a w) (hL : LetsOut Q' → LetsOut Q) (hh : wpOp P ops Q' i K a w) : wpOp P ops Q i K a w := by
  unfold wpOp at *
  split
  · simpa [*] using hh
  · rename_i o ho
    simp only [ho] at hh
    split
    · rename_i hw; simp only [hw, if_true] at hh; exact hh.imp (wp_weak hP hL) (fun h => ⟨h.1, hL h.2⟩)
    · rename_i hw; simp only [hw] at hh; exact hh
/-- What a fork asks at its end, and Q for all other exits. -/
def forkQ (Q : Exit → Act → World → Prop) (F : Act → World → Prop) : Exit → Act → World → Prop := fun x a w => match x with | .normal => F a w | y => Q y a w
def preOK (ops : Array Oper) : List (Nat × Bool) → Array Bool → Bool
  | [], _ => true
  | (i, true) :: r, listed => Region.free .any ops listed i && (Region.ready .any ops listed).contains i && preOK ops r (listed.setIfInBounds i true)
  | (i, false) :: r, listed => (Region.ready .any ops listed == [i]) && preOK ops r (listed.setIfInBounds i true)
def behind : List (Nat × Bool) → Array Bool → Array Bool
  | [], l => l
  | (i, _) :: r, l => behind r (l.setIfInBounds i true)
def planOK (ops : Array Oper) : Plan → Array Bool → Bool
  | .leaf r, l => schedOK ops r l
  | .fork r i p j q, l => preOK ops r l && (Region.ready .any ops (behind r l) == [i, j]) && !lastK ops i && !lastK ops j && Nat.beq p.len q.len && planOK ops p ((behind r l).setIfInBounds i true) && planOK ops q ((behind r l).setIfInBounds j true)
def seqP (P : Program) (ops : Array Oper) (Q : Exit → Act → World → Prop) (S : World → Prop) : Plan → Act → World → Prop
  | .leaf r, a, w => seqH P ops Q S r a w
  | .fork r i p j q, a, w => seqH P ops (forkQ Q fun a' w' => S w' ∧ wpOp P ops Q i (fun b v => (lastK ops i = true ∨ S v) ∧ seqP P ops Q S p b v) a' w' ∧ wpOp P ops Q j (fun b v => (lastK ops j = true ∨ S v) ∧ seqP P ops Q S q b v) a' w') S r a w
theorem pre_nil {r : List (Nat × Bool)} {l : Array Bool} (h : preOK ops r l = true) (hr : Region.ready .any ops l = []) : r = [] := by
  match r, h with
  | [], _ => rfl
  | (i, true) :: r, h => simp [preOK, hr] at h
  | (i, false) :: r, h => simp [preOK, hr] at h
theorem pre_sound {Q' : Exit → Act → World → Prop} (hs : Region.noSelect ops = true) (hQ : ∀ c a d v w, Q (.panic c) (Act.put a (some d) v) w → Q (.panic c) a w) (hQQ : ∀ c a w, Q' (.panic c) a w → Q (.panic c) a w) (hLL : LetsOut Q' → LetsOut Q) (n : Nat) :
    ∀ (r : List (Nat × Bool)) (listed : Array Bool) (a : Act) (w : World), preOK ops r listed = true → (r = [] ∨ S w) → seqH P ops Q' S r a w → (∀ a' w', Q' .normal a' w' → wpAnyL P ops Q S n (behind r listed) a' w') → wpAnyL P ops Q S (r.length + n) listed a w
  | [], listed, a, w, h, _, hq, hn => by
    rw [show ([] : List (Nat × Bool)).length + n = n by simp]
    exact hn a w hq
  | (i, true) :: r, listed, a, w, h, hS, hq, hn => by
    simp only [preOK, Bool.and_eq_true] at h
    obtain ⟨o, v, d, ho, hd, hy, hq⟩ := hq
    have hS := hS.resolve_left (by simp)
    have := pre_sound hs hQ hQQ hLL n r _ _ _ h.2 (.inr hS) hq hn
    rw [show ((i, true) :: r).length + n = (r.length + n) + 1 by simp; omega]
    exact takeL ho hs (fun c a w => by rw [hd]; exact hQ c a _ _ w) _ _ _ _ h.1.1 (by simpa using h.1.2) hy hS (by rw [hd]; exact this)
  | (i, false) :: r, listed, a, w, h, hS, hq, hn => by
    simp only [preOK, Bool.and_eq_true, beq_iff_eq] at h
    rw [show ((i, false) :: r).length + n = (r.length + n) + 1 by simp; omega]
    refine ⟨fun h0 => absurd (h.1.symm.trans h0) (by simp), fun j hj => ?_⟩
    have hji := hj
    rw [h.1] at hji
    obtain rfl : j = i := by simpa using hji
    change wpOp P ops Q' j (fun a' w' => (lastK ops j = true ∨ S w') ∧ seqH P ops Q' S r a' w') a w at hq
    have hq := wpOp_weak hQQ hLL hq
    refine wpOp_mono (fun a' w' ⟨h1, h2⟩ => ⟨h1, pre_sound hs hQ hQQ hLL n r _ _ _ h.2 ?_ h2 hn⟩) hq
    exact h1.imp (fun hl => pre_nil h.2 (lastK_none hl hj)) id
theorem plan_sound (hs : Region.noSelect ops = true) (hQ : ∀ c a d v w, Q (.panic c) (Act.put a (some d) v) w → Q (.panic c) a w) :
    ∀ (p : Plan) (listed : Array Bool) (a : Act) (w : World), planOK ops p listed = true → S w → seqP P ops Q S p a w → wpAnyL P ops Q S p.len listed a w
  | .leaf r, listed, a, w, h, hS, hq => seq_sound hs hQ r listed a w h (.inr hS) hq
  | .fork r i p j q, listed, a, w, h, hS, hq => by
    simp only [planOK, Bool.and_eq_true, beq_iff_eq, Bool.not_eq_true'] at h
    obtain ⟨⟨⟨⟨⟨⟨h1, h2⟩, h3⟩, h4⟩, h5⟩, h6⟩, h7⟩ := h
    have h5 := Nat.eq_of_beq_eq_true h5
    refine pre_sound (Q' := forkQ Q _) hs hQ (fun c a w h => h) (fun h => h) (p.len + 1) r listed a w h1 (.inr hS) hq (fun a' w' hf => ?_)
    obtain ⟨g1, g2, g3⟩ := hf
    refine ⟨fun h0 => absurd (h2.symm.trans h0) (by simp), fun k hk => ?_⟩
    rw [h2] at hk
    simp only [List.mem_cons, List.not_mem_nil, or_false] at hk
    rcases hk with rfl | rfl
    · exact wpOp_mono (fun b v hv => ⟨hv.1, plan_sound hs hQ p _ _ _ h6 (hv.1.resolve_left (by rw [h3]; simp)) hv.2⟩) g2
    · rw [h5]
      exact wpOp_mono (fun b v hv => ⟨hv.1, plan_sound hs hQ q _ _ _ h7 (hv.1.resolve_left (by rw [h4]; simp)) hv.2⟩) g3
/-- RunE over a plan. -/
def RunT (P : Program) (ops : Array Oper) (Q : Exit → Act → World → Prop) (S : World → Prop) : Plan → Act → List (Nat × Value) → World → Prop
  | .leaf r, a, e, w => RunE P ops Q S r a e w
  | .fork r i p j q, a, e, w => RunE P ops (forkQ Q fun a' w' => S w' ∧ wpOp P ops Q i (fun b v => (lastK ops i = true ∨ S v) ∧ seqP P ops Q S p b v) a' w' ∧ wpOp P ops Q j (fun b v => (lastK ops j = true ∨ S v) ∧ seqP P ops Q S q b v) a' w') S r a e w
theorem RunT.out {p : Plan} {a : Act} {e : List (Nat × Value)} {w : World} (h : RunT P ops Q S p a e w) (hk : keysIn a.tmps.size e) : seqP P ops Q S p (putAll a e) w := by
  cases p with
  | leaf r => exact RunE.out h hk
  | fork r i p j q => exact RunE.out h hk
/-- An operation ahead of a plan. -/
theorem cons_wp {i : Nat} {p : Plan} {a : Act} {w : World} (hl : lastK ops i = false) (h : seqP P ops Q S (p.cons i) a w) : wpOp P ops Q i (fun b v => (lastK ops i = true ∨ S v) ∧ seqP P ops Q S p b v) a w := by
  cases p with
  | leaf r => exact h
  | fork r j p k q => exact wpOp_weak (fun c a w h => h) (fun h => h) h
/-- The end of a fork's first part: both ways. -/
theorem run_fork {i j : Nat} {p q : Plan} {a : Act} {e : List (Nat × Value)} {w : World} (hS : S w) (hi : lastK ops i = false) (hj : lastK ops j = false) (h1 : RunT P ops Q S (p.cons i) a e w) (h2 : RunT P ops Q S (q.cons j) a e w) :
    RunE P ops (forkQ Q fun a' w' => S w' ∧ wpOp P ops Q i (fun b v => (lastK ops i = true ∨ S v) ∧ seqP P ops Q S p b v) a' w' ∧ wpOp P ops Q j (fun b v => (lastK ops j = true ∨ S v) ∧ seqP P ops Q S q b v) a' w') S [] a e w :=
  ⟨fun hk => ⟨hS, cons_wp hi (h1.out hk), cons_wp hj (h2.out hk)⟩⟩
theorem run_regionT {id : Nat} {ops' : Array Oper} {a : Act} {w : World} (p : Plan) (hops : ops' = ops) (hm : P.follows .mixedOrders = true) (hs : Region.noSelect ops = true) (hlen : Nat.beq p.len ops.size = true)
    (hsch : planOK ops p (Array.replicate ops.size false) = true) (hQ : ∀ c a d v w, Q (.panic c) (Act.put a (some d) v) w → Q (.panic c) a w) (hS : S w.drew)
    (h : RunT P ops Q S p a [] w.drew) : (Code.region id ops' true).wp P Q a w := by
  subst hops
  refine wp_region_any hm (wpAny_of_L (S := S) _ _ _ _ ?_)
  have hl := Nat.eq_of_beq_eq_true hlen
  show wpAnyL P ops' Q S ops'.size (Array.replicate ops'.size false) a w.drew
  generalize Array.replicate ops'.size false = L at hsch ⊢
  rw [← hl]
  exact plan_sound hs hQ p _ _ _ hsch hS (h.out (fun p hp => by cases hp))
end
/-- A new variable of type Vector, of type Item. -/
theorem new_vec (w : World) : (Instr.alloc 31 true (.tuple #[])).run Tryz.prog w = .ok (.pointer (some ⟨w.heap.size, 0, none⟩)) (w.alloc (.cells #[.int .i64 0, .slice none 0 0, .slice none 0 0, .slice none 0 0, .slice none 0 0, .slice none 0 0, .int .i64 0, .int .i64 0] 31)) := by
  kernel_rfl
section
variable {P : Program} {ops : Array Oper} {Q : Exit → Act → World → Prop} {S : World → Prop}
variable {r : List (Nat × Bool)} {a : Act} {e : List (Nat × Value)} {w : World} {i d : Nat} {g : Option (Nat × Bool)}
/-- A new variable, wherever it comes up. -/
theorem run_new {t : TypeId} {C : Array Value} (ho : opAt ops i = some (some d, .alloc t, g)) (hd : Nat.blt d a.tmps.size = true) (hw : wantE ops a e g = some true)
    (hn : ∀ v : World, (Instr.alloc t true (.tuple #[])).run P v = .ok (.pointer (some ⟨v.heap.size, 0, none⟩)) (v.alloc (.cells C t)))
    (h : ∀ W n, W = w.alloc (.cells C t) → n = w.heap.size → S W ∧ RunE P ops Q S r a ((d, .pointer (some ⟨n, 0, none⟩)) :: e) W) : RunE P ops Q S ((i, false) :: r) a e w := by
  obtain ⟨hS, hR⟩ := h _ _ rfl rfl
  exact run_eff (op := .alloc t) ho hd hw (fun o h1 => by unfold execOp; rw [h1]; exact run_v (hn w)) hS hR
end
section
variable {P : Program} {ops : Array Oper} {Q : Exit → Act → World → Prop} {S : World → Prop}
variable {r : List (Nat × Bool)} {a : Act} {e : List (Nat × Value)} {w : World} {i d : Nat} {g : Option (Nat × Bool)}
end
/-- A vector stored whole into a block that holds one. -/
theorem store_vec8 {w : World} {b : Nat} {z0 z1 z2 z3 z4 z5 z6 z7 c0 c1 c2 c3 c4 c5 c6 c7 : Value} (h : w.heap[b]? = some (.cells #[z0, z1, z2, z3, z4, z5, z6, z7] 31 (0, 0))) (h1 : (#[c0, c1, c2, c3, c4, c5, c6, c7] : Array Value).all (·.oneCell') = true) :
    (Instr.storeAt 31 (.pointer (some ⟨b, 0, none⟩)) (.agg #[c0, c1, c2, c3, c4, c5, c6, c7])).run Tryz.prog w = .ok () (w.setRow b #[c0, c1, c2, c3, c4, c5, c6, c7]) := by
  have e := run_storeVar_row (P := Tryz.prog) w b _ 31 #[z0, z1, z2, z3, z4, z5, z6, z7] #[c0, c1, c2, c3, c4, c5, c6, c7] h infoVec rfl h1
  simp only [Instr.storeAt, Instr.sureAddr, Sem.run_bind, Sem.run_pure, Result.andThen_ok, e]
theorem Own.row {d : Nat} {V : Vec} {y : Value} {lo hi g : Nat} {c : Array Value} {w : World} (h : Own d V y lo hi w) (hg : g < lo) : Own d V y lo hi (w.setRow g c) := by
  obtain ⟨F, q1, q2, q3⟩ := h.out
  exact ⟨F, q1.kept _ _ _ _ (fun b hb => row_old rfl (by have := (q3 b hb).1; omega)), q2, q3⟩
theorem row_size (w : World) (g : Nat) (c : Array Value) : w.heap.size ≤ (w.setRow g c).heap.size := (below_row (Below.refl 0 w) (Nat.zero_le _) c).size
/-- A block that was made in a region. -/
structure NewB (b : Nat) (t : TypeId) (C : Array Value) (w : World) : Prop where
  out : w.heap[b]? = some (.cells C t (0, 0))
theorem NewB.keep {b : Nat} {t : TypeId} {C : Array Value} {w w1 : World} (h : NewB b t C w) (hb : Below w.heap.size w w1) : NewB b t C w1 := ⟨blk_below hb h.out⟩
end Go.Proofs.YtikgcogiiohahaaGreatDoor

/- A region in which several operations that change the world come up at once, in any order: an invariant over what is done, the values that they left, and the world. -/
namespace Go.Proofs.YtikgcogiiohahaaGreatDoor
set_option maxRecDepth 100000
open Go.RowKit
set_option linter.unusedVariables false

/-- The puts of those operations of D (operation, slot) that are done, in D's order. -/
def putsI (D : List (Nat × Nat)) (l : Array Bool) (V : Nat → Value) : List (Nat × Value) :=
  (D.filter fun p => l.getD p.1 false).map fun p => (p.2, V p.2)
def updI (V : Nat → Value) (d : Nat) (v : Value) : Nat → Value := fun k => match Nat.beq d k with | true => v | false => V k
theorem updI_ne (V : Nat → Value) {d k : Nat} (v : Value) (h : d ≠ k) : updI V d v k = V k := by
  unfold updI
  cases hb : Nat.beq d k with
  | true => exact absurd (Nat.eq_of_beq_eq_true hb) h
  | false => rfl
section
variable {P : Program} {ops : Array Oper} {Q : Exit → Act → World → Prop} {S : World → Prop}
def sameB (l l' : Array Bool) : Bool := l.toList == l'.toList
/-- From l, whatever comes up is one of D's operations, what it depends on is done, and it leads to one of Ls. -/
def nextOK (ops : Array Oper) (D dep : List (Nat × Nat)) (Ls : List (Array Bool)) (l : Array Bool) : Bool :=
  match Region.ready .any ops l with
  | [] => false
  | R => R.all fun i => (D.any fun p => Nat.beq p.1 i) && !lastK ops i && Nat.blt i l.size && !l.getD i false && (dep.all fun p => !Nat.beq p.1 i || l.getD p.2 false) && Ls.any (sameB (l.setIfInBounds i true))
/-- Whatever order is taken from here: the states come in layers, the last of them is L, and then come the operations of q, in q's order. -/
def anyOK (ops : Array Oper) (D dep : List (Nat × Nat)) (q : List (Nat × Bool)) (L : Array Bool) : List (List (Array Bool)) → List (Array Bool) → Bool
  | [], cur => cur.all fun l => sameB l L && schedOK ops q l
  | Ls :: rest, cur => cur.all (nextOK ops D dep Ls) && anyOK ops D dep q L rest Ls
/-- What one operation of D must do. -/
def StepI (P : Program) (ops : Array Oper) (S : World → Prop) (J : Array Bool → (Nat → Value) → World → Prop) (D dep : List (Nat × Nat)) (a : Act) (e : List (Nat × Value)) (i d : Nat) : Prop :=
  ∀ l V w, J l V w → S w → i < l.size → l.getD i false = false → (∀ k, (i, k) ∈ dep → l.getD k false = true) →
    ∀ Q' : Exit → Act → World → Prop, (∀ v w', S w' → J (l.setIfInBounds i true) (updI V d v) w' → RunE P ops Q' S [] a ((d, v) :: (putsI D l V ++ e)) w') → RunE P ops Q' S [(i, false)] a (putsI D l V ++ e) w
end
end Go.Proofs.YtikgcogiiohahaaGreatDoor

/- Several slices of the call's own that are made and filled in any order: the invariant for RegI. -/
namespace Go.Proofs.YtikgcogiiohahaaGreatDoor
set_option maxRecDepth 100000
open Go.RowKit
set_option linter.unusedVariables false

/-- A slice literal of no elements. -/
theorem run_buildSlice0 {P : Program} (w : World) (t el : TypeId) (ie : TypeInfo) (hu : P.underlying t = some (.slice el)) (hie : P.info? el = some ie) :
    (Instr.buildSlice t 0 #[]).run P w = .ok (.slice (some ⟨w.heap.size, 0, none⟩) 0 0) (w.alloc (.cells #[] el)) := by
  simp [Instr.buildSlice, run_underlying hu, sizeOf, typeInfo, hie, newRow, Instr.fill]
  congr 2
  exact Array.eq_empty_of_size_eq_zero (by simp)
theorem ownsRow_kept {w w' : World} {base : Nat} {el : TypeId} {size n : Nat} {v : Value} {xs : List Value} (h : w.ownsRow base el size v n xs) (k : ∀ g, v.ownBlock = some g → w'.heap[g]? = w.heap[g]?) : w'.ownsRow base el size v n xs := by
  obtain ⟨hl, h⟩ := h
  refine ⟨hl, h.imp id ?_⟩
  rintro ⟨g, cap, cur, rfl, hB, hg, h⟩
  exact ⟨g, cap, cur, rfl, hB, (k g rfl).trans hg, h⟩
/-- One slice: operation i makes it (slot d), operation i2 appends n elements, xs, to it (slot d2). -/
structure Ch where
  i : Nat
  d : Nat
  i2 : Nat
  d2 : Nat
  el : TypeId
  size : Nat
  n : Nat
  xs : List Value
def Ch.cur (c : Ch) (l : Array Bool) (V : Nat → Value) : Value := match l.getD c.i2 false with
  | true => V c.d2
  | false => match l.getD c.i false with
    | true => V c.d
    | false => .slice none 0 0
def Ch.num (c : Ch) (l : Array Bool) : Nat := match l.getD c.i2 false with | true => c.n | false => 0
def Ch.row (c : Ch) (l : Array Bool) : List Value := match l.getD c.i2 false with | true => c.xs | false => []
/-- Operation i and slot d are none of c's. -/
def Ch.apart (c : Ch) (i d : Nat) : Bool := !Nat.beq c.i i && !Nat.beq c.i2 i && !Nat.beq c.d d && !Nat.beq c.d2 d
def Chs.apart (C : List Ch) : Bool := C.all fun c => C.all fun c' => Nat.beq c.i c'.i || (c.apart c'.i c'.d && c.apart c'.i2 c'.d2)
theorem beq_ne {a b : Nat} (h : Nat.beq a b = false) : a ≠ b := fun e => by subst e; simp at h
theorem getD_set_off {l : Array Bool} {i j : Nat} (h : j ≠ i) : (l.setIfInBounds i true).getD j false = l.getD j false := by
  simp [Array.getD_eq_getD_getElem?, Array.getElem?_setIfInBounds_ne (Ne.symm h)]
theorem Ch.same {c : Ch} {i d : Nat} {l : Array Bool} {V : Nat → Value} {v : Value} (h : c.apart i d = true) : c.cur (l.setIfInBounds i true) (updI V d v) = c.cur l V ∧ c.num (l.setIfInBounds i true) = c.num l ∧ c.row (l.setIfInBounds i true) = c.row l := by
  simp only [Ch.apart, Bool.and_eq_true, Bool.not_eq_true'] at h
  obtain ⟨⟨⟨h1, h2⟩, h3⟩, h4⟩ := h
  unfold Ch.cur Ch.num Ch.row
  rw [getD_set_off (beq_ne h1), getD_set_off (beq_ne h2), updI_ne V v (Ne.symm (beq_ne h3)), updI_ne V v (Ne.symm (beq_ne h4))]
  exact ⟨rfl, rfl, rfl⟩
theorem Ch.off {c : Ch} {i d : Nat} {l : Array Bool} (h : c.apart i d = true) : (l.setIfInBounds i true).getD c.i2 false = l.getD c.i2 false ∧ (l.setIfInBounds i true).getD c.i false = l.getD c.i false := by
  simp only [Ch.apart, Bool.and_eq_true, Bool.not_eq_true'] at h
  obtain ⟨⟨⟨h1, h2⟩, h3⟩, h4⟩ := h
  exact ⟨getD_set_off (beq_ne h2), getD_set_off (beq_ne h1)⟩
/-- Each slice is what its operations made of it; no block belongs to two of them, none to X. -/
structure JCh (base : Nat) (C : List Ch) (X : List Nat) (l : Array Bool) (V : Nat → Value) (w : World) : Prop where
  seq : ∀ c ∈ C, l.getD c.i2 false = true → l.getD c.i false = true
  own : ∀ c ∈ C, w.ownsRow base c.el c.size (c.cur l V) (c.num l) (c.row l)
  two : ∀ c ∈ C, ∀ c' ∈ C, c.i ≠ c'.i → ∀ g, (c.cur l V).ownBlock = some g → (c'.cur l V).ownBlock ≠ some g
  out : ∀ c ∈ C, ∀ g, (c.cur l V).ownBlock = some g → g ∉ X
/-- One of c's operations: its slice is v' now. -/
theorem JCh.step {base : Nat} {C : List Ch} {X : List Nat} {l : Array Bool} {V : Nat → Value} {w w' : World} {c : Ch} {i d : Nat} {v' : Value} (h : JCh base C X l V w) (hc : c ∈ C) (hap : ∀ c' ∈ C, c'.i ≠ c.i → c'.apart i d = true) (hX : ∀ g ∈ X, g < w.heap.size) (hu : ∀ c' ∈ C, c'.i = c.i → c' = c)
    (hseq : (l.setIfInBounds i true).getD c.i2 false = true → (l.setIfInBounds i true).getD c.i false = true) (hcur : c.cur (l.setIfInBounds i true) (updI V d v') = v')
    (hown : w'.ownsRow base c.el c.size v' (c.num (l.setIfInBounds i true)) (c.row (l.setIfInBounds i true)))
    (hold : ∀ g, g < w.heap.size → (c.cur l V).ownBlock ≠ some g → w'.heap[g]? = w.heap[g]?) (hwh : v'.ownBlock = (c.cur l V).ownBlock ∨ v'.ownBlock = some w.heap.size) :
    JCh base C X (l.setIfInBounds i true) (updI V d v') w' := by
  have hb : ∀ c' ∈ C, c'.i ≠ c.i → ∀ g, (c'.cur l V).ownBlock = some g → v'.ownBlock ≠ some g := by
    intro c' hc' hne g hg he
    rcases hwh with e | e
    · exact h.two c' hc' c hc hne g hg (e ▸ he)
    · rw [e] at he
      simp only [Option.some.injEq] at he
      have := ((h.own c' hc').lt g hg).2
      omega
  refine ⟨fun c' hc' => ?_, fun c' hc' => ?_, fun c1 h1 c2 h2 hne g hg => ?_, fun c' hc' g hg => ?_⟩
  · by_cases e : c'.i = c.i
    · obtain rfl := hu c' hc' e
      exact hseq
    · rw [(Ch.off (l := l) (hap c' hc' e)).1, (Ch.off (l := l) (hap c' hc' e)).2]
      exact h.seq c' hc'
  · by_cases e : c'.i = c.i
    · obtain rfl := hu c' hc' e
      rw [hcur]; exact hown
    · obtain ⟨e1, e2, e3⟩ := Ch.same (l := l) (V := V) (v := v') (hap c' hc' e)
      rw [e1, e2, e3]
      exact ownsRow_kept (h.own c' hc') fun g hg => hold g ((h.own c' hc').lt g hg).2 (fun he => h.two c' hc' c hc e g hg he)
  · by_cases e : c1.i = c.i
    · obtain rfl := hu c1 h1 e
      rw [hcur] at hg
      rw [(Ch.same (l := l) (V := V) (v := v') (hap c2 h2 (Ne.symm hne))).1]
      exact fun he => hb c2 h2 (Ne.symm hne) g he hg
    · rw [(Ch.same (l := l) (V := V) (v := v') (hap c1 h1 e)).1] at hg
      by_cases e2 : c2.i = c.i
      · obtain rfl := hu c2 h2 e2
        rw [hcur]; exact hb c1 h1 e g hg
      · rw [(Ch.same (l := l) (V := V) (v := v') (hap c2 h2 e2)).1]
        exact h.two c1 h1 c2 h2 hne g hg
  · by_cases e : c'.i = c.i
    · obtain rfl := hu c' hc' e
      rw [hcur] at hg
      intro hx
      rcases hwh with e1 | e1
      · exact h.out c' hc' g (e1 ▸ hg) hx
      · rw [e1] at hg
        simp only [Option.some.injEq] at hg
        have := hX g hx
        omega
    · rw [(Ch.same (l := l) (V := V) (v := v') (hap c' hc' e)).1] at hg
      exact h.out c' hc' g hg
/-- Another operation, which leaves all blocks alone and makes the blocks X' (all new, or X's). -/
theorem JCh.other {base : Nat} {C : List Ch} {X X' : List Nat} {l : Array Bool} {V : Nat → Value} {w w' : World} {i d : Nat} {v' : Value} (h : JCh base C X l V w) (hap : ∀ c' ∈ C, c'.apart i d = true) (hb : ∀ g, g < w.heap.size → w'.heap[g]? = w.heap[g]?) (hX : ∀ g ∈ X', w.heap.size ≤ g) :
    JCh base C X' (l.setIfInBounds i true) (updI V d v') w' := by
  refine ⟨fun c' hc' => ?_, fun c' hc' => ?_, fun c1 h1 c2 h2 hne g hg => ?_, fun c' hc' g hg hx => ?_⟩
  · rw [(Ch.off (l := l) (hap c' hc')).1, (Ch.off (l := l) (hap c' hc')).2]
    exact h.seq c' hc'
  · obtain ⟨e1, e2, e3⟩ := Ch.same (l := l) (V := V) (v := v') (hap c' hc')
    rw [e1, e2, e3]
    exact ownsRow_kept (h.own c' hc') fun g hg => hb g ((h.own c' hc').lt g hg).2
  · rw [(Ch.same (l := l) (V := V) (v := v') (hap c1 h1)).1] at hg
    rw [(Ch.same (l := l) (V := V) (v := v') (hap c2 h2)).1]
    exact h.two c1 h1 c2 h2 hne g hg
  · rw [(Ch.same (l := l) (V := V) (v := v') (hap c' hc')).1] at hg
    have := ((h.own c' hc').lt g hg).2
    have := hX g hx
    omega
/-- The invariant: the slices of C, the blocks X of all else, and T. -/
def JJ (base : Nat) (C : List Ch) (T : List Nat → Array Bool → (Nat → Value) → World → Prop) (l : Array Bool) (V : Nat → Value) (w : World) : Prop := ∃ X, JCh base C X l V w ∧ (∀ g ∈ X, g < w.heap.size) ∧ base ≤ w.heap.size ∧ T X l V w
/-- T keeps through the operations of C. -/
structure KeepT (C : List Ch) (T : List Nat → Array Bool → (Nat → Value) → World → Prop) : Prop where
  out : ∀ X l V w w' i d v', (∃ c ∈ C, (i = c.i ∧ d = c.d) ∨ (i = c.i2 ∧ d = c.d2)) → T X l V w → (∀ g ∈ X, w'.heap[g]? = w.heap[g]?) → w.heap.size ≤ w'.heap.size → T X (l.setIfInBounds i true) (updI V d v') w'
section
variable {P : Program} {ops : Array Oper} {S : World → Prop} {D dep : List (Nat × Nat)} {a : Act} {e : List (Nat × Value)} {base : Nat} {C : List Ch} {T : List Nat → Array Bool → (Nat → Value) → World → Prop}
structure ChsOK (C : List Ch) : Prop where
  ap : ∀ c ∈ C, ∀ c' ∈ C, c'.i ≠ c.i → c'.apart c.i c.d = true ∧ c'.apart c.i2 c.d2 = true
  eq : ∀ c ∈ C, ∀ c' ∈ C, c'.i = c.i → c' = c
  ne : ∀ c ∈ C, c.i ≠ c.i2 ∧ c.d ≠ c.d2
end
/-- Nothing is appended. -/
theorem run_app0W {P : Program} {w : World} {t el ty : TypeId} {ie : TypeInfo} {v0 : Value} (hu : P.underlying t = some (.slice el)) (hie : P.info? el = some ie) (hv : v0 = .slice none 0 0 ∨ ∃ g k, v0 = .slice (some ⟨g, 0, none⟩) 0 k) (ad : Option Addr) (c : Nat) :
    (Builtin.append_ #[t, t] ty #[v0, .slice ad 0 c]).run P w = .ok v0 w := by
  rcases ad with _ | ad <;> rcases hv with rfl | ⟨g, k, rfl⟩ <;> simp [Builtin.append_, run_underlying hu, sizeOf, typeInfo, hie, Builtin.lenOf, Builtin.firstCells, loadCells, loadCellsFrom, storeCells]
section
variable {P : Program} {ops : Array Oper} {Q : Exit → Act → World → Prop} {S : World → Prop}
variable {r : List (Nat × Bool)} {a : Act} {e : List (Nat × Value)} {w : World} {i d : Nat} {g : Option (Nat × Bool)} {v : Value}
/-- An append onto a row of the call's own, and where the new row lies. -/
theorem run_appW {t el : TypeId} {x y : Operand} {v0 : Value} (ho : opAt ops i = some (some d, .call { callee := .builtin .append, args := [x, y].toArray, argTypes := [t, t].toArray }, g)) (hd : Nat.blt d a.tmps.size = true) (hw : wantE ops a e g = some true)
    (hx : lookO a e x = v0) (ad : Option Addr) (m c : Nat) (hy : lookO a e y = .slice ad m c)
    (base : Nat) (ie : TypeInfo) (z : Value) (size bytes : Nat) (ht : P.underlying t = some (.slice el)) (hi : P.info? el = some ie) (hz : ie.zero = some z) (hsize : ie.size = size) (hby : ie.bytes = bytes) (hzs : z.cells.size = size) (hsz : 0 < size)
    (hown : w.ownsRow base el size v0 0 []) (news : List Value) (hl : news.length = m * size) (hnews : 0 < m → ∃ b : Addr, ad = some b ∧ ∀ j u, news[j]? = some u → w.cell? (b.add j) = some u) (h1 : ∀ u ∈ news, u.oneCell' = true)
    (h63 : m ≤ maxLen) (hbytes : m * bytes ≤ 140737488355328) (hbase : base ≤ w.heap.size)
    (h : ∀ v' w', w'.ownsRow base el size v' m news → w.grownBy w' v0.ownBlock → (v'.ownBlock = v0.ownBlock ∨ v'.ownBlock = some w.heap.size) → S w' ∧ RunE P ops Q S r a ((d, v') :: e) w') : RunE P ops Q S ((i, false) :: r) a e w := by
  refine ⟨fun hk => ?_⟩
  obtain ⟨o, hi', k1, k2, k3⟩ := opAt_spec ho
  show wpOp P ops Q i (fun a' w' => (lastK ops i = true ∨ S w') ∧ seqH P ops Q S r a' w') (putAll a e) w
  unfold wpOp
  simp only [hi', if_pos (wantE_spec hk (by rw [k3]; exact hw))]
  left
  unfold Oper.wp
  rw [eval_putAll a e hk]
  by_cases hm : 0 < m
  · obtain ⟨b, rfl, hn2⟩ := hnews hm
    obtain ⟨v', w', hr, h2, h3, _, h4⟩ := run_append_own_at (P := P) w base t o.type el ie z size bytes ht hi hz hsize hby hzs hsz v0 0 [] hown b m c news hl hn2 h1 (by omega) (by rw [Nat.zero_add]; exact hbytes) hbase
    obtain ⟨hS, hR⟩ := h v' w' (by simpa using h2) h3 h4
    unfold execOp
    simp only [k2, resolve, invoke, builtin, Sem.run_bind, Sem.run_pure, Result.andThen_ok, List.map_toArray, List.map_cons, List.map_nil, hx, hy, hr]
    simp only [Oper.upon]
    rw [k1]
    exact ⟨.inr hS, hR.out (keysIn_cons hd hk)⟩
  · obtain rfl : m = 0 := by omega
    obtain rfl : news = [] := List.eq_nil_of_length_eq_zero (by simpa using hl)
    have hr := run_app0W (P := P) (w := w) (ty := o.type) (v0 := v0) ht hi (by
      obtain ⟨_, ⟨e, _⟩ | ⟨g, k, _, e, _⟩⟩ := hown
      · exact .inl e
      · exact .inr ⟨g, k, e⟩) ad c
    obtain ⟨hS, hR⟩ := h v0 w hown ⟨rfl, rfl, rfl, Nat.le_refl _, fun _ _ _ => rfl⟩ (.inl rfl)
    unfold execOp
    simp only [k2, resolve, invoke, builtin, Sem.run_bind, Sem.run_pure, Result.andThen_ok, List.map_toArray, List.map_cons, List.map_nil, hx, hy, hr]
    simp only [Oper.upon]
    rw [k1]
    exact ⟨.inr hS, hR.out (keysIn_cons hd hk)⟩
end
section
variable {P : Program} {ops : Array Oper} {S : World → Prop} {D dep : List (Nat × Nat)} {a : Act} {e : List (Nat × Value)} {base : Nat} {C : List Ch} {T : List Nat → Array Bool → (Nat → Value) → World → Prop}
end
end Go.Proofs.YtikgcogiiohahaaGreatDoor

/- The reference's copy of a vector: the orders of its region. -/
namespace Go.Proofs.YtikgcogiiohahaaGreatDoor
set_option maxRecDepth 100000
open Go.RowKit
set_option linter.unusedVariables false
def cpyR : List (Nat × Bool) := [(0, true), (1, true), (3, true), (4, true), (6, true), (7, true), (10, true), (11, true), (14, true), (15, true), (18, true), (19, true), (21, true), (22, true), (23, true), (24, true)]
def cpyD : List (Nat × Nat) := [(2, 5), (5, 8), (8, 11), (9, 12), (12, 15), (13, 16), (16, 19), (17, 20), (20, 23)]
def cpyDep : List (Nat × Nat) := [(5, 2), (12, 9), (16, 13), (20, 17)]
def cpyL0 : Array Bool := behind cpyR (Array.replicate 27 false)
def cpyL1 : Array Bool := behind (cpyD.map fun p => (p.1, false)) cpyL0
def cpyY : List (List (Array Bool)) := [[#[true, true, true, true, true, false, true, true, false, false, true, true, false, false, true, true, false, false, true, true, false, true, true, true, true, false, false], #[true, true, false, true, true, false, true, true, false, true, true, true, false, false, true, true, false, false, true, true, false, true, true, true, true, false, false], #[true, true, false, true, true, false, true, true, false, false, true, true, false, true, true, true, false, false, true, true, false, true, true, true, true, false, false], #[true, true, false, true, true, false, true, true, false, false, true, true, false, false, true, true, false, true, true, true, false, true, true, true, true, false, false]],
  [#[true, true, true, true, true, false, true, true, false, true, true, true, false, false, true, true, false, false, true, true, false, true, true, true, true, false, false], #[true, true, true, true, true, false, true, true, false, false, true, true, false, true, true, true, false, false, true, true, false, true, true, true, true, false, false], #[true, true, true, true, true, false, true, true, false, false, true, true, false, false, true, true, false, true, true, true, false, true, true, true, true, false, false], #[true, true, true, true, true, true, true, true, false, false, true, true, false, false, true, true, false, false, true, true, false, true, true, true, true, false, false], #[true, true, false, true, true, false, true, true, false, true, true, true, false, true, true, true, false, false, true, true, false, true, true, true, true, false, false], #[true, true, false, true, true, false, true, true, false, true, true, true, false, false, true, true, false, true, true, true, false, true, true, true, true, false, false], #[true, true, false, true, true, false, true, true, false, false, true, true, false, true, true, true, false, true, true, true, false, true, true, true, true, false, false]],
  [#[true, true, true, true, true, false, true, true, false, true, true, true, false, true, true, true, false, false, true, true, false, true, true, true, true, false, false], #[true, true, true, true, true, false, true, true, false, true, true, true, false, false, true, true, false, true, true, true, false, true, true, true, true, false, false], #[true, true, true, true, true, true, true, true, false, true, true, true, false, false, true, true, false, false, true, true, false, true, true, true, true, false, false], #[true, true, true, true, true, false, true, true, false, false, true, true, false, true, true, true, false, true, true, true, false, true, true, true, true, false, false], #[true, true, true, true, true, true, true, true, false, false, true, true, false, true, true, true, false, false, true, true, false, true, true, true, true, false, false], #[true, true, true, true, true, true, true, true, false, false, true, true, false, false, true, true, false, true, true, true, false, true, true, true, true, false, false], #[true, true, true, true, true, true, true, true, true, false, true, true, false, false, true, true, false, false, true, true, false, true, true, true, true, false, false], #[true, true, false, true, true, false, true, true, false, true, true, true, false, true, true, true, false, true, true, true, false, true, true, true, true, false, false]],
  [#[true, true, true, true, true, false, true, true, false, true, true, true, false, true, true, true, false, true, true, true, false, true, true, true, true, false, false], #[true, true, true, true, true, true, true, true, false, true, true, true, false, true, true, true, false, false, true, true, false, true, true, true, true, false, false], #[true, true, true, true, true, true, true, true, false, true, true, true, false, false, true, true, false, true, true, true, false, true, true, true, true, false, false], #[true, true, true, true, true, true, true, true, true, true, true, true, false, false, true, true, false, false, true, true, false, true, true, true, true, false, false], #[true, true, true, true, true, true, true, true, false, false, true, true, false, true, true, true, false, true, true, true, false, true, true, true, true, false, false], #[true, true, true, true, true, true, true, true, true, false, true, true, false, true, true, true, false, false, true, true, false, true, true, true, true, false, false], #[true, true, true, true, true, true, true, true, true, false, true, true, false, false, true, true, false, true, true, true, false, true, true, true, true, false, false]],
  [#[true, true, true, true, true, true, true, true, false, true, true, true, false, true, true, true, false, true, true, true, false, true, true, true, true, false, false], #[true, true, true, true, true, true, true, true, true, true, true, true, false, true, true, true, false, false, true, true, false, true, true, true, true, false, false], #[true, true, true, true, true, true, true, true, true, true, true, true, false, false, true, true, false, true, true, true, false, true, true, true, true, false, false], #[true, true, true, true, true, true, true, true, true, true, true, true, true, false, true, true, false, false, true, true, false, true, true, true, true, false, false], #[true, true, true, true, true, true, true, true, true, false, true, true, false, true, true, true, false, true, true, true, false, true, true, true, true, false, false]],
  [#[true, true, true, true, true, true, true, true, true, true, true, true, false, true, true, true, false, true, true, true, false, true, true, true, true, false, false], #[true, true, true, true, true, true, true, true, true, true, true, true, true, true, true, true, false, false, true, true, false, true, true, true, true, false, false], #[true, true, true, true, true, true, true, true, true, true, true, true, true, false, true, true, false, true, true, true, false, true, true, true, true, false, false]],
  [#[true, true, true, true, true, true, true, true, true, true, true, true, true, true, true, true, false, true, true, true, false, true, true, true, true, false, false], #[true, true, true, true, true, true, true, true, true, true, true, true, true, true, true, true, true, false, true, true, false, true, true, true, true, false, false]],
  [#[true, true, true, true, true, true, true, true, true, true, true, true, true, true, true, true, true, true, true, true, false, true, true, true, true, false, false]],
  [#[true, true, true, true, true, true, true, true, true, true, true, true, true, true, true, true, true, true, true, true, true, true, true, true, true, false, false]]]
end Go.Proofs.YtikgcogiiohahaaGreatDoor

/- The reference's copy of a vector: its parts' copies given. -/
namespace Go.Proofs.YtikgcogiiohahaaGreatDoor
set_option maxRecDepth 100000
open Go.RowKit
set_option linter.unusedVariables false
def cpyC (items : List It) (names cls levels : List ByteArray) : List Ch := [⟨2, 5, 5, 8, 45, 3, items.length, itCells items⟩, ⟨9, 12, 12, 15, 9, 1, names.length, names.map Value.string⟩, ⟨13, 16, 16, 19, 9, 1, cls.length, cls.map Value.string⟩, ⟨17, 20, 20, 23, 9, 1, levels.length, levels.map Value.string⟩]
/-- The copies of the parts, once they are made. -/
def cpyT (base d : Nat) (parts : List Vec) (X : List Nat) (l : Array Bool) (V : Nat → Value) (w : World) : Prop := (l.getD 8 false = false → X = []) ∧ (l.getD 8 false = true → OwnParts w d (V 11) parts X ∧ X.Nodup ∧ ∀ g ∈ X, base ≤ g)
theorem OwnIts.blk {w : World} {a : Option Addr} {l : List It} {F : List Nat} (h : OwnIts w a l F) (n c : Nat) : ∀ b ∈ F, (Value.slice a n c).ownBlock = some b := by
  intro b hb
  rcases h with ⟨_, rfl⟩ | ⟨b', C, rfl, rfl, _⟩
  · cases hb
  · obtain rfl := List.mem_singleton.1 hb; rfl
theorem OwnTxs.blk {w : World} {a : Option Addr} {l : List ByteArray} {F : List Nat} (h : OwnTxs w a l F) (n c : Nat) : ∀ b ∈ F, (Value.slice a n c).ownBlock = some b := by
  intro b hb
  rcases h with ⟨_, rfl⟩ | ⟨b', C, rfl, rfl, _⟩
  · cases hb
  · obtain rfl := List.mem_singleton.1 hb; rfl
theorem txs_of_row {w : World} {B : Nat} {v : Value} {l : List ByteArray} (h : w.ownsRow B 9 1 v l.length (l.map Value.string)) : ∃ a c F, v = .slice a l.length c ∧ OwnTxs w a l F ∧ F.Nodup ∧ (∀ b ∈ F, B ≤ b ∧ b < w.heap.size) ∧ l.length ≤ c := by
  by_cases hpos : 0 < l.length
  · obtain ⟨g, c, rfl, ho, h1, h2, h3⟩ := own_of_row hpos h
    exact ⟨_, c, [g], rfl, ho, by simp, fun b hb => by obtain rfl := List.mem_singleton.1 hb; exact ⟨h1, h2⟩, h3⟩
  · obtain rfl : l = [] := List.eq_nil_of_length_eq_zero (by omega)
    obtain ⟨_, ⟨e, _⟩ | ⟨g, k, _, e, _⟩⟩ := h
    · exact ⟨none, 0, [], e, .inl ⟨rfl, rfl⟩, List.nodup_nil, (fun _ h => by cases h), Nat.le_refl _⟩
    · exact ⟨_, k, [], e, .inl ⟨rfl, rfl⟩, List.nodup_nil, (fun _ h => by cases h), Nat.zero_le _⟩
theorem Ch.none {c : Ch} {l : Array Bool} {V : Nat → Value} (h : l.getD c.i2 false = false) (h2 : l.getD c.i false = false) : c.cur l V = .slice Option.none 0 0 ∧ c.num l = 0 ∧ c.row l = [] := by
  unfold Ch.cur Ch.num Ch.row
  rw [h, h2]
  exact ⟨rfl, rfl, rfl⟩
/-- All parts, however deep, are vectors. -/
def AllIs : Nat → Vec → Prop
  | 0, _ => True
  | d + 1, v => ∀ i, i < (partsV v).length → IsV 3 ((partsV v).getD i noV) ∧ AllIs d ((partsV v).getD i noV)
end Go.Proofs.YtikgcogiiohahaaGreatDoor

/- A vector's five slices while a call makes them. -/
namespace Go.Proofs.YtikgcogiiohahaaGreatDoor
open Go.RowKit
set_option maxRecDepth 100000
set_option linter.unusedVariables false

/-- A row of vectors of the call's own, with the blocks X of the vectors. -/
structure RowX (lo : Nat) (w : World) (d : Nat) (parts : List Vec) (v : Value) (X : List Nat) : Prop where
  ex : ∃ (vals : List Value) (Fs : List (List Nat)), vals.length = parts.length ∧ Fs.length = parts.length ∧ w.ownsRow lo 31 8 v parts.length (vals.flatMap cl8) ∧
    (∀ i, i < parts.length → OwnVec w d (parts.getD i noV) (vals.getD i undef) (Fs.getD i [])) ∧ Fs.flatten = X
theorem RowX.row {lo : Nat} {w : World} {d : Nat} {parts : List Vec} {v : Value} {X : List Nat} (h : RowX lo w d parts v X) : ∃ xs, w.ownsRow lo 31 8 v parts.length xs := by
  obtain ⟨vals, Fs, _, _, hr, _⟩ := h.ex
  exact ⟨_, hr⟩
theorem RowX.nil (lo : Nat) (w : World) (d : Nat) : RowX lo w d [] (.slice none 0 0) [] :=
  ⟨[], [], rfl, rfl, ⟨rfl, .inl ⟨rfl, rfl⟩⟩, fun i h => absurd h (Nat.not_lt_zero _), rfl⟩
theorem RowX.kept {lo : Nat} {w w' : World} {d : Nat} {parts : List Vec} {v : Value} {X : List Nat} (h : RowX lo w d parts v X) (hX : ∀ g ∈ X, w'.heap[g]? = w.heap[g]?) (hv : ∀ g, v.ownBlock = some g → w'.heap[g]? = w.heap[g]?) : RowX lo w' d parts v X := by
  obtain ⟨vals, Fs, h1, h2, h3, h4, rfl⟩ := h.ex
  exact ⟨vals, Fs, h1, h2, ownsRow_kept h3 hv, fun i hi => (h4 i hi).kept _ _ _ _ (fun b hb => hX b (mem_flat (by omega) hb)), rfl⟩
theorem RowX.own {lo : Nat} {w : World} {d : Nat} {parts : List Vec} {v : Value} {X : List Nat} (h : RowX lo w d parts v X) : ∃ ap cp F, v = .slice ap parts.length cp ∧ parts.length ≤ cp ∧
    ((parts = [] ∧ F = []) ∨ ∃ b C, ∃ Fs : List (List Nat), F = b :: Fs.flatten ∧ Fs.length = parts.length ∧ ap = some ⟨b, 0, none⟩ ∧ w.heap[b]? = some (.cells C 31 (0, 0)) ∧ parts.length * 8 ≤ C.size ∧
      ∀ i, i < parts.length → ∃ val, OwnVec w d (parts.getD i noV) val (Fs.getD i []) ∧ Eight C i val) ∧ (∀ g ∈ F, v.ownBlock = some g ∨ g ∈ X) ∧ (X.Nodup → (∀ g, v.ownBlock = some g → g ∉ X) → F.Nodup) := by
  obtain ⟨vals, Fs, h1, h2, ⟨hl, h3⟩, h4, rfl⟩ := h.ex
  rcases h3 with ⟨rfl, h0⟩ | ⟨g, cap, cur, rfl, hB, hg, hc, _, hs, ht⟩
  · have hp : parts = [] := List.eq_nil_of_length_eq_zero h0
    subst hp
    exact ⟨none, 0, [], rfl, Nat.le_refl _, .inl ⟨rfl, rfl⟩, (fun _ h => by cases h), fun _ _ => List.nodup_nil⟩
  · refine ⟨_, cap, g :: Fs.flatten, rfl, hc, .inr ⟨g, cur, Fs, rfl, h2, rfl, hg, by omega, fun i hi => ⟨_, h4 i hi, ?_⟩⟩, fun b hb => ?_, fun hn ho => List.nodup_cons.2 ⟨ho g rfl, hn⟩⟩
    · obtain ⟨c0, c1, c2, c3, c4, c5, c6, c7, e, m0, m1, m2, m3, m4, m5, m6, m7⟩ := flat8_at vals (RowV.is8 h1 h4) i (by omega)
      have key : ∀ j, j < parts.length * 8 → cur[j]? = (vals.flatMap cl8)[j]? := fun j hj => by
        rw [← ht, List.getElem?_take_of_lt hj, Array.getElem?_toList]
      refine ⟨c0, c1, c2, c3, c4, c5, c6, c7, e, ?_, ?_, ?_, ?_, ?_, ?_, ?_, ?_⟩
      · rw [key _ (by omega)]; exact m0
      · rw [key _ (by omega)]; exact m1
      · rw [key _ (by omega)]; exact m2
      · rw [key _ (by omega)]; exact m3
      · rw [key _ (by omega)]; exact m4
      · rw [key _ (by omega)]; exact m5
      · rw [key _ (by omega)]; exact m6
      · rw [key _ (by omega)]; exact m7
    · rcases List.mem_cons.1 hb with rfl | hb
      · exact .inl rfl
      · exact .inr hb
/-- No block is both's. -/
def Apart2 (a b : Value) : Prop := ∀ g, a.ownBlock = some g → b.ownBlock ≠ some g
def Off (v : Value) (X : List Nat) : Prop := ∀ g, v.ownBlock = some g → g ∉ X
def Below1 (v : Value) (w : World) : Prop := ∀ g, v.ownBlock = some g → g < w.heap.size
/-- v' took v's place: the same block, or a new one. -/
def Moved (w : World) (v v' : Value) : Prop := v'.ownBlock = v.ownBlock ∨ ∃ g, v'.ownBlock = some g ∧ w.heap.size ≤ g
theorem Apart2.symm {a b : Value} (h : Apart2 a b) : Apart2 b a := fun g hb ha => h g ha hb
theorem Apart2.moved {w : World} {a a' b : Value} (h : Apart2 a b) (hm : Moved w a a') (hb : Below1 b w) : Apart2 a' b := fun g ha hg => by
  rcases hm with e | ⟨g', e, hle⟩
  · exact h g (e ▸ ha) hg
  · rw [e] at ha
    have := Option.some.inj ha
    have := hb g hg
    omega
theorem Off.moved {w : World} {a a' : Value} {X : List Nat} (h : Off a X) (hm : Moved w a a') (hX : ∀ g ∈ X, g < w.heap.size) : Off a' X := fun g ha hg => by
  rcases hm with e | ⟨g', e, hle⟩
  · exact h g (e ▸ ha) hg
  · rw [e] at ha
    have := Option.some.inj ha
    have := hX g hg
    omega
theorem apart_nil (b : Value) : Apart2 (.slice none 0 0) b := fun g h => by cases h
theorem row_below {lo : Nat} {w : World} {el : TypeId} {size n : Nat} {v : Value} {xs : List Value} (h : w.ownsRow lo el size v n xs) : Below1 v w := fun g hg => (h.lt g hg).2
/-- The five slices of a vector that a call makes, each in blocks of its own, at or above lo. -/
structure Und (lo : Nat) (w : World) (d : Nat) (items : List It) (parts : List Vec) (names cls lev : List ByteArray) (vi vp vn vc vl : Value) (X : List Nat) : Prop where
  i : w.ownsRow lo 45 3 vi items.length (itCells items)
  p : RowX lo w d parts vp X
  n : w.ownsRow lo 9 1 vn names.length (names.map Value.string)
  c : w.ownsRow lo 9 1 vc cls.length (cls.map Value.string)
  l : w.ownsRow lo 9 1 vl lev.length (lev.map Value.string)
  nd : X.Nodup
  rg : ∀ g ∈ X, lo ≤ g ∧ g < w.heap.size
  two : (Apart2 vi vp ∧ Apart2 vi vn ∧ Apart2 vi vc ∧ Apart2 vi vl) ∧ (Apart2 vp vn ∧ Apart2 vp vc ∧ Apart2 vp vl) ∧ (Apart2 vn vc ∧ Apart2 vn vl) ∧ Apart2 vc vl
  off : Off vi X ∧ Off vp X ∧ Off vn X ∧ Off vc X ∧ Off vl X
theorem Und.start (lo : Nat) (w : World) (d : Nat) : Und lo w d [] [] [] [] [] (.slice none 0 0) (.slice none 0 0) (.slice none 0 0) (.slice none 0 0) (.slice none 0 0) [] :=
  ⟨⟨rfl, .inl ⟨rfl, rfl⟩⟩, RowX.nil _ _ _, ⟨rfl, .inl ⟨rfl, rfl⟩⟩, ⟨rfl, .inl ⟨rfl, rfl⟩⟩, ⟨rfl, .inl ⟨rfl, rfl⟩⟩, List.nodup_nil, (fun _ h => by cases h), ⟨⟨apart_nil _, apart_nil _, apart_nil _, apart_nil _⟩, ⟨apart_nil _, apart_nil _, apart_nil _⟩, ⟨apart_nil _, apart_nil _⟩, apart_nil _⟩, ⟨(fun _ _ h => by cases h), (fun _ _ h => by cases h), (fun _ _ h => by cases h), (fun _ _ h => by cases h), (fun _ _ h => by cases h)⟩⟩
theorem Und.pb {lo : Nat} {w : World} {d : Nat} {items : List It} {parts : List Vec} {names cls lev : List ByteArray} {vi vp vn vc vl : Value} {X : List Nat} (h : Und lo w d items parts names cls lev vi vp vn vc vl X) : Below1 vp w ∧ ∀ g, vp.ownBlock = some g → lo ≤ g := by
  obtain ⟨xs, hr⟩ := h.p.row
  exact ⟨row_below hr, fun g hg => (hr.lt g hg).1⟩
theorem Und.kept {lo : Nat} {w : World} {d : Nat} {items : List It} {parts : List Vec} {names cls lev : List ByteArray} {vi vp vn vc vl : Value} {X : List Nat} {w' : World} (h : Und lo w d items parts names cls lev vi vp vn vc vl X) (hk : ∀ g, lo ≤ g → g < w.heap.size → w'.heap[g]? = w.heap[g]?) (hs : w.heap.size ≤ w'.heap.size) : Und lo w' d items parts names cls lev vi vp vn vc vl X :=
  ⟨ownsRow_kept h.i fun g hg => hk g (h.i.lt g hg).1 (h.i.lt g hg).2, h.p.kept (fun g hg => hk g (h.rg g hg).1 (h.rg g hg).2) (fun g hg => hk g (h.pb.2 g hg) (h.pb.1 g hg)), ownsRow_kept h.n fun g hg => hk g (h.n.lt g hg).1 (h.n.lt g hg).2, ownsRow_kept h.c fun g hg => hk g (h.c.lt g hg).1 (h.c.lt g hg).2, ownsRow_kept h.l fun g hg => hk g (h.l.lt g hg).1 (h.l.lt g hg).2, h.nd, fun g hg => ⟨(h.rg g hg).1, Nat.lt_of_lt_of_le (h.rg g hg).2 hs⟩, h.two, h.off⟩
theorem Und.below {lo : Nat} {w : World} {d : Nat} {items : List It} {parts : List Vec} {names cls lev : List ByteArray} {vi vp vn vc vl : Value} {X : List Nat} {w' : World} (h : Und lo w d items parts names cls lev vi vp vn vc vl X) (hb : Below w.heap.size w w') : Und lo w' d items parts names cls lev vi vp vn vc vl X := h.kept (fun g _ hg => hb.block g hg) hb.size
/-- A store into a block below lo. -/
theorem Und.put {lo : Nat} {w : World} {d : Nat} {items : List It} {parts : List Vec} {names cls lev : List ByteArray} {vi vp vn vc vl : Value} {X : List Nat} (h : Und lo w d items parts names cls lev vi vp vn vc vl X) {b j : Nat} {u : Value} (hb : b < lo) : Und lo (w.setCell ⟨b, j, none⟩ u) d items parts names cls lev vi vp vn vc vl X :=
  h.kept (fun g hg _ => Below.heap_setCell _ _ _ _ (by show g ≠ b; omega)) (by simp)
theorem Und.setN {lo : Nat} {w : World} {d : Nat} {items : List It} {parts : List Vec} {names cls lev : List ByteArray} {vi vp vn vc vl : Value} {X : List Nat} {w' : World} {names' : List ByteArray} {vn' : Value} (h : Und lo w d items parts names cls lev vi vp vn vc vl X) (hr : w'.ownsRow lo 9 1 vn' names'.length (names'.map Value.string)) (hm : Moved w vn vn') (hk : ∀ g, lo ≤ g → g < w.heap.size → vn.ownBlock ≠ some g → w'.heap[g]? = w.heap[g]?) (hs : w.heap.size ≤ w'.heap.size) :
    Und lo w' d items parts names' cls lev vi vp vn' vc vl X :=
  ⟨ownsRow_kept h.i (fun g hg => hk g (h.i.lt g hg).1 (h.i.lt g hg).2 (fun e => h.two.1.2.1.symm g e hg)), h.p.kept (fun g hg => hk g (h.rg g hg).1 (h.rg g hg).2 (fun e => h.off.2.2.1 g e hg)) (fun g hg => hk g (h.pb.2 g hg) (h.pb.1 g hg) (fun e => h.two.2.1.1.symm g e hg)), hr, ownsRow_kept h.c (fun g hg => hk g (h.c.lt g hg).1 (h.c.lt g hg).2 (fun e => h.two.2.2.1.1 g e hg)), ownsRow_kept h.l (fun g hg => hk g (h.l.lt g hg).1 (h.l.lt g hg).2 (fun e => h.two.2.2.1.2 g e hg)), h.nd, fun g hg => ⟨(h.rg g hg).1, Nat.lt_of_lt_of_le (h.rg g hg).2 hs⟩, ⟨⟨h.two.1.1, (h.two.1.2.1.symm.moved hm (row_below h.i)).symm, h.two.1.2.2.1, h.two.1.2.2.2⟩, ⟨(h.two.2.1.1.symm.moved hm h.pb.1).symm, h.two.2.1.2.1, h.two.2.1.2.2⟩, ⟨(h.two.2.2.1.1.moved hm (row_below h.c)), (h.two.2.2.1.2.moved hm (row_below h.l))⟩, h.two.2.2.2⟩, ⟨h.off.1, h.off.2.1, h.off.2.2.1.moved hm (fun g hg => (h.rg g hg).2), h.off.2.2.2.1, h.off.2.2.2.2⟩⟩
theorem Und.setC {lo : Nat} {w : World} {d : Nat} {items : List It} {parts : List Vec} {names cls lev : List ByteArray} {vi vp vn vc vl : Value} {X : List Nat} {w' : World} {cls' : List ByteArray} {vc' : Value} (h : Und lo w d items parts names cls lev vi vp vn vc vl X) (hr : w'.ownsRow lo 9 1 vc' cls'.length (cls'.map Value.string)) (hm : Moved w vc vc') (hk : ∀ g, lo ≤ g → g < w.heap.size → vc.ownBlock ≠ some g → w'.heap[g]? = w.heap[g]?) (hs : w.heap.size ≤ w'.heap.size) :
    Und lo w' d items parts names cls' lev vi vp vn vc' vl X :=
  ⟨ownsRow_kept h.i (fun g hg => hk g (h.i.lt g hg).1 (h.i.lt g hg).2 (fun e => h.two.1.2.2.1.symm g e hg)), h.p.kept (fun g hg => hk g (h.rg g hg).1 (h.rg g hg).2 (fun e => h.off.2.2.2.1 g e hg)) (fun g hg => hk g (h.pb.2 g hg) (h.pb.1 g hg) (fun e => h.two.2.1.2.1.symm g e hg)), ownsRow_kept h.n (fun g hg => hk g (h.n.lt g hg).1 (h.n.lt g hg).2 (fun e => h.two.2.2.1.1.symm g e hg)), hr, ownsRow_kept h.l (fun g hg => hk g (h.l.lt g hg).1 (h.l.lt g hg).2 (fun e => h.two.2.2.2 g e hg)), h.nd, fun g hg => ⟨(h.rg g hg).1, Nat.lt_of_lt_of_le (h.rg g hg).2 hs⟩, ⟨⟨h.two.1.1, h.two.1.2.1, (h.two.1.2.2.1.symm.moved hm (row_below h.i)).symm, h.two.1.2.2.2⟩, ⟨h.two.2.1.1, (h.two.2.1.2.1.symm.moved hm h.pb.1).symm, h.two.2.1.2.2⟩, ⟨(h.two.2.2.1.1.symm.moved hm (row_below h.n)).symm, h.two.2.2.1.2⟩, (h.two.2.2.2.moved hm (row_below h.l))⟩, ⟨h.off.1, h.off.2.1, h.off.2.2.1, h.off.2.2.2.1.moved hm (fun g hg => (h.rg g hg).2), h.off.2.2.2.2⟩⟩
theorem Und.setL {lo : Nat} {w : World} {d : Nat} {items : List It} {parts : List Vec} {names cls lev : List ByteArray} {vi vp vn vc vl : Value} {X : List Nat} {w' : World} {lev' : List ByteArray} {vl' : Value} (h : Und lo w d items parts names cls lev vi vp vn vc vl X) (hr : w'.ownsRow lo 9 1 vl' lev'.length (lev'.map Value.string)) (hm : Moved w vl vl') (hk : ∀ g, lo ≤ g → g < w.heap.size → vl.ownBlock ≠ some g → w'.heap[g]? = w.heap[g]?) (hs : w.heap.size ≤ w'.heap.size) :
    Und lo w' d items parts names cls lev' vi vp vn vc vl' X :=
  ⟨ownsRow_kept h.i (fun g hg => hk g (h.i.lt g hg).1 (h.i.lt g hg).2 (fun e => h.two.1.2.2.2.symm g e hg)), h.p.kept (fun g hg => hk g (h.rg g hg).1 (h.rg g hg).2 (fun e => h.off.2.2.2.2 g e hg)) (fun g hg => hk g (h.pb.2 g hg) (h.pb.1 g hg) (fun e => h.two.2.1.2.2.symm g e hg)), ownsRow_kept h.n (fun g hg => hk g (h.n.lt g hg).1 (h.n.lt g hg).2 (fun e => h.two.2.2.1.2.symm g e hg)), ownsRow_kept h.c (fun g hg => hk g (h.c.lt g hg).1 (h.c.lt g hg).2 (fun e => h.two.2.2.2.symm g e hg)), hr, h.nd, fun g hg => ⟨(h.rg g hg).1, Nat.lt_of_lt_of_le (h.rg g hg).2 hs⟩, ⟨⟨h.two.1.1, h.two.1.2.1, h.two.1.2.2.1, (h.two.1.2.2.2.symm.moved hm (row_below h.i)).symm⟩, ⟨h.two.2.1.1, h.two.2.1.2.1, (h.two.2.1.2.2.symm.moved hm h.pb.1).symm⟩, ⟨h.two.2.2.1.1, (h.two.2.2.1.2.symm.moved hm (row_below h.n)).symm⟩, (h.two.2.2.2.symm.moved hm (row_below h.c)).symm⟩, ⟨h.off.1, h.off.2.1, h.off.2.2.1, h.off.2.2.2.1, h.off.2.2.2.2.moved hm (fun g hg => (h.rg g hg).2)⟩⟩
theorem Und.setP {lo : Nat} {w : World} {d : Nat} {items : List It} {parts : List Vec} {names cls lev : List ByteArray} {vi vp vn vc vl : Value} {X : List Nat} {w' : World} {parts' : List Vec} {vp' : Value} {X' : List Nat} (h : Und lo w d items parts names cls lev vi vp vn vc vl X) (hr : RowX lo w' d parts' vp' X') (hm : Moved w vp vp') (hk : ∀ g, lo ≤ g → g < w.heap.size → vp.ownBlock ≠ some g → w'.heap[g]? = w.heap[g]?) (hs : w.heap.size ≤ w'.heap.size)
    (hnd : X'.Nodup) (hX : ∀ g ∈ X', (g ∈ X ∨ w.heap.size ≤ g) ∧ g < w'.heap.size) (hlo : lo ≤ w.heap.size) (hoff : Off vp' X') : Und lo w' d items parts' names cls lev vi vp' vn vc vl X' := by
  have F : ∀ {v : Value}, Off v X → Below1 v w → Off v X' := fun hv hb g hg hx => by
    rcases (hX g hx).1 with h1 | h1
    · exact hv g hg h1
    · have := hb g hg; omega
  exact ⟨ownsRow_kept h.i (fun g hg => hk g (h.i.lt g hg).1 (h.i.lt g hg).2 (fun e => h.two.1.1.symm g e hg)), hr, ownsRow_kept h.n (fun g hg => hk g (h.n.lt g hg).1 (h.n.lt g hg).2 (fun e => h.two.2.1.1 g e hg)), ownsRow_kept h.c (fun g hg => hk g (h.c.lt g hg).1 (h.c.lt g hg).2 (fun e => h.two.2.1.2.1 g e hg)), ownsRow_kept h.l (fun g hg => hk g (h.l.lt g hg).1 (h.l.lt g hg).2 (fun e => h.two.2.1.2.2 g e hg)), hnd, fun g hg => ⟨(by rcases (hX g hg).1 with h1 | h1; exact (h.rg g h1).1; omega), (hX g hg).2⟩, ⟨⟨(h.two.1.1.symm.moved hm (row_below h.i)).symm, h.two.1.2.1, h.two.1.2.2.1, h.two.1.2.2.2⟩, ⟨(h.two.2.1.1.moved hm (row_below h.n)), (h.two.2.1.2.1.moved hm (row_below h.c)), (h.two.2.1.2.2.moved hm (row_below h.l))⟩, ⟨h.two.2.2.1.1, h.two.2.2.1.2⟩, h.two.2.2.2⟩, ⟨F h.off.1 (row_below h.i), hoff, F h.off.2.2.1 (row_below h.n), F h.off.2.2.2.1 (row_below h.c), F h.off.2.2.2.2 (row_below h.l)⟩⟩
theorem Und.own {lo : Nat} {w : World} {d : Nat} {items : List It} {parts : List Vec} {names cls lev : List ByteArray} {vi vp vn vc vl : Value} {X : List Nat} (h : Und lo w d items parts names cls lev vi vp vn vc vl X) (k : Int) : Own (d + 1) (.mk k items parts names cls lev 0 0) (.agg #[.int .i64 k, vi, vp, vn, vc, vl, .int .i64 0, .int .i64 0]) lo w.heap.size w := by
  have off := h.off
  have two := h.two
  have pb := h.pb
  have rg := h.rg
  obtain ⟨ai, ci, Fi, rfl, oi, ni, ri, qi⟩ := own_of_its h.i
  obtain ⟨ap, cp, Fp, rfl, qp, op, dp, np⟩ := h.p.own
  obtain ⟨an, cn, Fn, rfl, on, nn, rn, qn⟩ := txs_of_row h.n
  obtain ⟨ac, cc, Fc, rfl, oc, nc, rc, qc⟩ := txs_of_row h.c
  obtain ⟨al, cl, Fl, rfl, ol, nl, rl, ql⟩ := txs_of_row h.l
  have di := oi.blk items.length ci
  have dn := on.blk names.length cn
  have dc := oc.blk cls.length cc
  have dl := ol.blk lev.length cl
  refine ⟨Fi ++ (Fp ++ (Fn ++ (Fc ++ Fl))), ?_, ?_, ?_⟩
  · unfold OwnVec
    exact ⟨ai, ci, ap, cp, an, cn, ac, cc, al, cl, Fi, Fp, Fn, Fc, Fl, rfl, rfl, ⟨qi, qp, qn, qc, ql⟩, oi, on, oc, ol, op⟩
  · rw [List.nodup_append, List.nodup_append, List.nodup_append, List.nodup_append]
    refine ⟨ni, ⟨np h.nd off.2.1, ⟨nn, ⟨nc, nl, fun x hx y hy e => two.2.2.2 x (dc x hx) (e ▸ dl y hy)⟩, fun x hx y hy e => ?_⟩, fun x hx y hy e => ?_⟩, fun x hx y hy e => ?_⟩
    · rcases List.mem_append.1 hy with hy | hy
      · exact two.2.2.1.1 x (dn x hx) (e ▸ dc y hy)
      · exact two.2.2.1.2 x (dn x hx) (e ▸ dl y hy)
    · subst e
      rcases dp x hx with hx | hx
      · rcases List.mem_append.1 hy with hy | hy
        · exact two.2.1.1 x hx (dn x hy)
        · rcases List.mem_append.1 hy with hy | hy
          · exact two.2.1.2.1 x hx (dc x hy)
          · exact two.2.1.2.2 x hx (dl x hy)
      · rcases List.mem_append.1 hy with hy | hy
        · exact off.2.2.1 x (dn x hy) hx
        · rcases List.mem_append.1 hy with hy | hy
          · exact off.2.2.2.1 x (dc x hy) hx
          · exact off.2.2.2.2 x (dl x hy) hx
    · subst e
      rcases List.mem_append.1 hy with hy | hy
      · rcases dp x hy with hy | hy
        · exact two.1.1 x (di x hx) hy
        · exact off.1 x (di x hx) hy
      · rcases List.mem_append.1 hy with hy | hy
        · exact two.1.2.1 x (di x hx) (dn x hy)
        · rcases List.mem_append.1 hy with hy | hy
          · exact two.1.2.2.1 x (di x hx) (dc x hy)
          · exact two.1.2.2.2 x (di x hx) (dl x hy)
  · intro g hg
    rcases List.mem_append.1 hg with hg | hg
    · exact ri g hg
    · rcases List.mem_append.1 hg with hg | hg
      · rcases dp g hg with hg | hg
        · exact ⟨pb.2 g hg, pb.1 g hg⟩
        · exact rg g hg
      · rcases List.mem_append.1 hg with hg | hg
        · exact rn g hg
        · rcases List.mem_append.1 hg with hg | hg
          · exact rc g hg
          · exact rl g hg
/-- A block that is none of the five slices'. -/
def UFree (b : Nat) (vi vp vn vc vl : Value) (X : List Nat) : Prop := vi.ownBlock ≠ some b ∧ vp.ownBlock ≠ some b ∧ vn.ownBlock ≠ some b ∧ vc.ownBlock ≠ some b ∧ vl.ownBlock ≠ some b ∧ b ∉ X
theorem Und.free {lo : Nat} {w : World} {d : Nat} {items : List It} {parts : List Vec} {names cls lev : List ByteArray} {vi vp vn vc vl : Value} {X : List Nat} (h : Und lo w d items parts names cls lev vi vp vn vc vl X) {b : Nat} (hb : w.heap.size ≤ b) : UFree b vi vp vn vc vl X :=
  ⟨fun e => by have := (h.i.lt b e).2; omega, fun e => by have := h.pb.1 b e; omega, fun e => by have := (h.n.lt b e).2; omega, fun e => by have := (h.c.lt b e).2; omega, fun e => by have := (h.l.lt b e).2; omega, fun e => by have := (h.rg b e).2; omega⟩
theorem Und.under {lo : Nat} {w : World} {d : Nat} {items : List It} {parts : List Vec} {names cls lev : List ByteArray} {vi vp vn vc vl : Value} {X : List Nat} (h : Und lo w d items parts names cls lev vi vp vn vc vl X) {b : Nat} (hb : b < lo) : UFree b vi vp vn vc vl X :=
  ⟨fun e => by have := (h.i.lt b e).1; omega, fun e => by have := h.pb.2 b e; omega, fun e => by have := (h.n.lt b e).1; omega, fun e => by have := (h.c.lt b e).1; omega, fun e => by have := (h.l.lt b e).1; omega, fun e => by have := (h.rg b e).1; omega⟩
/-- All but one block are kept. -/
theorem Und.but {lo : Nat} {w : World} {d : Nat} {items : List It} {parts : List Vec} {names cls lev : List ByteArray} {vi vp vn vc vl : Value} {X : List Nat} {w' : World} {b : Nat} (h : Und lo w d items parts names cls lev vi vp vn vc vl X) (hf : UFree b vi vp vn vc vl X) (hk : ∀ g, g < w.heap.size → g ≠ b → w'.heap[g]? = w.heap[g]?) (hs : w.heap.size ≤ w'.heap.size) : Und lo w' d items parts names cls lev vi vp vn vc vl X :=
  ⟨ownsRow_kept h.i fun g hg => hk g (h.i.lt g hg).2 (fun e => hf.1 (e ▸ hg)), h.p.kept (fun g hg => hk g (h.rg g hg).2 (fun e => hf.2.2.2.2.2 (e ▸ hg))) (fun g hg => hk g (h.pb.1 g hg) (fun e => hf.2.1 (e ▸ hg))), ownsRow_kept h.n fun g hg => hk g (h.n.lt g hg).2 (fun e => hf.2.2.1 (e ▸ hg)), ownsRow_kept h.c fun g hg => hk g (h.c.lt g hg).2 (fun e => hf.2.2.2.1 (e ▸ hg)), ownsRow_kept h.l fun g hg => hk g (h.l.lt g hg).2 (fun e => hf.2.2.2.2.1 (e ▸ hg)), h.nd, fun g hg => ⟨(h.rg g hg).1, Nat.lt_of_lt_of_le (h.rg g hg).2 hs⟩, h.two, h.off⟩
theorem row_lo {lo base : Nat} {w : World} {el : TypeId} {size n : Nat} {v : Value} {xs : List Value} (h : w.ownsRow base el size v n xs) (hl : lo ≤ base) : w.ownsRow lo el size v n xs := by
  obtain ⟨h1, h2⟩ := h
  refine ⟨h1, h2.imp id ?_⟩
  rintro ⟨g, cap, cur, e, hB, r⟩
  exact ⟨g, cap, cur, e, Nat.le_trans hl hB, r⟩
theorem Und.wide {lo : Nat} {w : World} {d : Nat} {items : List It} {parts : List Vec} {names cls lev : List ByteArray} {vi vp vn vc vl : Value} {X : List Nat} {lo' : Nat} (h : Und lo w d items parts names cls lev vi vp vn vc vl X) (hl : lo' ≤ lo) : Und lo' w d items parts names cls lev vi vp vn vc vl X := by
  obtain ⟨vals, Fs, h1, h2, h3, h4, h5⟩ := h.p.ex
  exact ⟨row_lo h.i hl, ⟨vals, Fs, h1, h2, row_lo h3 hl, h4, h5⟩, row_lo h.n hl, row_lo h.c hl, row_lo h.l hl, h.nd, fun g hg => ⟨Nat.le_trans hl (h.rg g hg).1, (h.rg g hg).2⟩, h.two, h.off⟩
end Go.Proofs.YtikgcogiiohahaaGreatDoor

/- Lists of ints that a call builds: indexesWhere, positionsOf. -/
namespace Go.Proofs.YtikgcogiiohahaaGreatDoor
open Go.RowKit
set_option maxRecDepth 100000
set_option linter.unusedVariables false

/-- A list of ints in memory. -/
def intC (l : List Int) : List Value := l.map (fun x => .int .i64 x)
theorem intC_F (l : List Int) : intsF (fun i => l.getD i 0) l.length = intC l := by
  unfold intsF intC
  apply List.ext_getElem
  · simp
  · intro i h1 h2
    simp only [List.length_map] at h2
    simp [List.getD_eq_getElem?_getD, h2]
/-- What a loop that appends ints to a local slice keeps. -/
structure IntZ (w wr : World) (l : List Int) (v : Value) : Prop where
  row : wr.ownsRow w.heap.size 3 1 v l.length (intC l)
  below : Below w.heap.size w wr
theorem IntZ.keep {w wr w1 : World} {l : List Int} {v : Value} (h : IntZ w wr l v) (hb : Below wr.heap.size wr w1) : IntZ w w1 l v := ⟨ownsRow_below h.row hb, below_then h.below hb⟩
theorem IntZ.nil (w wr : World) (hb : Below w.heap.size w wr) : IntZ w wr [] (.slice none 0 0) := ⟨⟨rfl, .inl ⟨rfl, rfl⟩⟩, hb⟩
theorem IntZ.ints {w wr : World} {l : List Int} {v : Value} (h : IntZ w wr l v) : ∃ sa c, v = .slice sa l.length c ∧ IntsAt wr.heap.size wr sa l.length (fun i => l.getD i 0) :=
  ints_of_row (f := fun i => l.getD i 0) (by rw [intC_F]; exact h.row)
/-- The indexes below k at which p holds. -/
def whN (p : Nat → Bool) (k : Nat) : List Nat := (List.range k).filter p
def whZ (p : Nat → Bool) (k : Nat) : List Int := (whN p k).map (fun (i : Nat) => (i : Int))
def posZ (f : Nat → Int) (k : Nat) : List Int := (List.range k).map (fun i => f i + 1)
end Go.Proofs.YtikgcogiiohahaaGreatDoor

/- The problem of one operand, in the program; an item that is appended. -/
namespace Go.Proofs.YtikgcogiiohahaaGreatDoor
open Go.RowKit
set_option maxRecDepth 100000
set_option linter.unusedVariables false

end Go.Proofs.YtikgcogiiohahaaGreatDoor

/- Elements selected by indexes: selectFrom at items, texts and vectors, knownNames. -/
namespace Go.Proofs.YtikgcogiiohahaaGreatDoor
open Go.RowKit
set_option maxRecDepth 100000
set_option linter.unusedVariables false

/-- The elements at the indexes; none of a list without elements. -/
def pkL {α : Type} (z : α) (l : List α) (idx : List Nat) : List α := match l with | [] => [] | _ :: _ => idx.map (fun i => l.getD i z)
/-- The first k of them. -/
def pkF {α : Type} (z : α) (l : List α) (idx : List Nat) (k : Nat) : List α := (idx.take k).map (fun i => l.getD i z)
/-- Indexes as ints. -/
def ixF (idx : List Nat) (i : Nat) : Int := ((idx.getD i 0 : Nat) : Int)
/-- What a loop that appends texts to a local slice keeps. -/
structure TxZ (w wr : World) (l : List ByteArray) (v : Value) : Prop where
  row : wr.ownsRow w.heap.size 9 1 v l.length (l.map Value.string)
  below : Below w.heap.size w wr
theorem TxZ.keep {w wr w1 : World} {l : List ByteArray} {v : Value} (h : TxZ w wr l v) (hb : Below wr.heap.size wr w1) : TxZ w w1 l v := ⟨ownsRow_below h.row hb, below_then h.below hb⟩
theorem TxZ.nil (w wr : World) (hb : Below w.heap.size w wr) : TxZ w wr [] (.slice none 0 0) := ⟨⟨rfl, .inl ⟨rfl, rfl⟩⟩, hb⟩
theorem ItR.nil (w wr : World) (hb : Below w.heap.size w wr) : ItR w wr [] (.slice none 0 0) := ⟨⟨rfl, .inl ⟨rfl, rfl⟩⟩, hb⟩
/-- What a loop that appends vectors of old memory to a local slice keeps. -/
structure RowO (lo hi : Nat) (w wr : World) (d : Nat) (P : List Vec) (k : Nat) (v : Value) : Prop where
  ex : ∃ vals : List Value, vals.length = k ∧ wr.ownsRow w.heap.size 31 8 v k (vals.flatMap cl8) ∧ ∀ i, i < k → Is8 (vals.getD i undef) ∧ VecAt lo hi w d (P.getD i noV) (vals.getD i undef)
  below : Below w.heap.size w wr
theorem RowO.nil (lo hi : Nat) (w : World) (d : Nat) (P : List Vec) : RowO lo hi w w d P 0 (.slice none 0 0) := ⟨⟨[], rfl, ⟨rfl, .inl ⟨rfl, rfl⟩⟩, fun i h => absurd h (Nat.not_lt_zero _)⟩, Below.refl _ _⟩
theorem RowO.keep {lo hi : Nat} {w wr w1 : World} {d : Nat} {P : List Vec} {k : Nat} {v : Value} (h : RowO lo hi w wr d P k v) (hb : Below wr.heap.size wr w1) : RowO lo hi w w1 d P k v := by
  obtain ⟨vals, h1, h2, h3⟩ := h.ex
  exact ⟨⟨vals, h1, ownsRow_below h2 hb, h3⟩, below_then h.below hb⟩
theorem RowO.row {lo hi : Nat} {w wr : World} {d : Nat} {P : List Vec} {k : Nat} {v : Value} (h : RowO lo hi w wr d P k v) : ∃ xs, wr.ownsRow w.heap.size 31 8 v k xs := by
  obtain ⟨vals, _, h2, _⟩ := h.ex
  exact ⟨_, h2⟩
theorem RowO.next {lo hi : Nat} {w wr w1 w2 : World} {d : Nat} {P : List Vec} {k : Nat} {v v' : Value} {c0 c1 c2 c3 c4 c5 c6 c7 : Value} (h : RowO lo hi w wr d P k v) (hv : VecAt lo hi w d (P.getD k noV) (.agg #[c0, c1, c2, c3, c4, c5, c6, c7])) (hb : Below wr.heap.size wr w1) (hg : w1.grownBy w2 v.ownBlock)
    (hr : ∀ xs, wr.ownsRow w.heap.size 31 8 v k xs → w2.ownsRow w.heap.size 31 8 v' (k + 1) (xs ++ [c0, c1, c2, c3, c4, c5, c6, c7])) : RowO lo hi w w2 d P (k + 1) v' := by
  obtain ⟨vals, h1, h2, h3⟩ := h.ex
  refine ⟨⟨vals ++ [Value.agg #[c0, c1, c2, c3, c4, c5, c6, c7]], by simp [h1], ?_, fun i hi => ?_⟩, (below_then h.below hb).grown hg (Nat.le_trans h.below.size hb.size) (fun r hr' => (h2.lt r hr').1)⟩
  · rw [List.flatMap_append]; exact hr _ h2
  · by_cases e : i = k
    · subst e
      have e1 : (vals ++ [Value.agg #[c0, c1, c2, c3, c4, c5, c6, c7]]).getD i undef = .agg #[c0, c1, c2, c3, c4, c5, c6, c7] := by rw [List.getD_eq_getElem?_getD, List.getElem?_append_right (by omega)]; simp [h1]
      rw [e1]
      exact ⟨⟨_, _, _, _, _, _, _, _, rfl⟩, hv⟩
    · have e1 : (vals ++ [Value.agg #[c0, c1, c2, c3, c4, c5, c6, c7]]).getD i undef = vals.getD i undef := by rw [List.getD_eq_getElem?_getD, List.getD_eq_getElem?_getD, List.getElem?_append_left (by omega)]
      rw [e1]
      exact h3 i (by omega)
/-- Names, or none where all are empty. -/
noncomputable def clnN (l : List ByteArray) : List ByteArray := match bB (∃ i, i < l.length ∧ (l.getD i ⟨#[]⟩).size ≠ 0) with | true => l | false => []
end Go.Proofs.YtikgcogiiohahaaGreatDoor

/- The end of a region that appends one element to a field, and where the new slice lies. -/
namespace Go.Proofs.YtikgcogiiohahaaGreatDoor
open Go.RowKit
set_option maxRecDepth 100000
set_option linter.unusedVariables false

section
variable {P : Program} {ops : Array Oper} {Q : Exit → Act → World → Prop} {S : World → Prop}
variable {r : List (Nat × Bool)} {a : Act} {e : List (Nat × Value)} {w : World} {i d : Nat} {g : Option (Nat × Bool)} {v : Value}
/-- An append onto a row of the call's own, and where the new slice lies. -/
theorem run_appAt {t el : TypeId} {x y : Operand} {v0 : Value} (ho : opAt ops i = some (some d, .call { callee := .builtin .append, args := [x, y].toArray, argTypes := [t, t].toArray }, g)) (hd : Nat.blt d a.tmps.size = true) (hw : wantE ops a e g = some true)
    (hx : lookO a e x = v0) (ad : Addr) (m c : Nat) (hy : lookO a e y = .slice (some ad) m c)
    (base : Nat) (ie : TypeInfo) (z : Value) (size bytes : Nat) (ht : P.underlying t = some (.slice el)) (hi : P.info? el = some ie) (hz : ie.zero = some z) (hsize : ie.size = size) (hby : ie.bytes = bytes) (hzs : z.cells.size = size) (hsz : 0 < size)
    (n : Nat) (xs : List Value) (hown : w.ownsRow base el size v0 n xs) (news : List Value) (hl : news.length = m * size) (hnews : ∀ j u, news[j]? = some u → w.cell? (ad.add j) = some u) (h1 : ∀ u ∈ news, u.oneCell' = true)
    (h63 : n + m ≤ maxLen) (hbytes : (n + m) * bytes ≤ 140737488355328) (hbase : base ≤ w.heap.size)
    (h : ∀ v' w', w'.ownsRow base el size v' (n + m) (xs ++ news) → w.grownBy w' v0.ownBlock → (v'.ownBlock = v0.ownBlock ∨ v'.ownBlock = some w.heap.size) → S w' ∧ RunE P ops Q S r a ((d, v') :: e) w') : RunE P ops Q S ((i, false) :: r) a e w := by
  refine ⟨fun hk => ?_⟩
  obtain ⟨o, hi', k1, k2, k3⟩ := opAt_spec ho
  show wpOp P ops Q i (fun a' w' => (lastK ops i = true ∨ S w') ∧ seqH P ops Q S r a' w') (putAll a e) w
  unfold wpOp
  simp only [hi', if_pos (wantE_spec hk (by rw [k3]; exact hw))]
  left
  unfold Oper.wp
  rw [eval_putAll a e hk]
  obtain ⟨v', w', hr, h2, h3, _, h4⟩ := run_append_own_at (P := P) w base t o.type el ie z size bytes ht hi hz hsize hby hzs hsz v0 n xs hown ad m c news hl hnews h1 h63 hbytes hbase
  obtain ⟨hS, hR⟩ := h v' w' h2 h3 h4
  unfold execOp
  simp only [k2, resolve, invoke, builtin, Sem.run_bind, Sem.run_pure, Result.andThen_ok, List.map_toArray, List.map_cons, List.map_nil, hx, hy, hr]
  simp only [Oper.upon]
  rw [k1]
  exact ⟨.inr hS, hR.out (keysIn_cons hd hk)⟩
end
end Go.Proofs.YtikgcogiiohahaaGreatDoor

/- withoutElements, selectElements. -/
namespace Go.Proofs.YtikgcogiiohahaaGreatDoor
open Go.RowKit
set_option maxRecDepth 100000
set_option linter.unusedVariables false

theorem TxZ.slice {w wr : World} {l : List ByteArray} {s : Option Addr} {n c : Nat} (h : TxZ w wr l (.slice s n c)) : n = l.length := by
  obtain ⟨_, ⟨e, h0⟩ | ⟨g, cap, cur, e, _⟩⟩ := h.row
  · simp only [Value.slice.injEq] at e; omega
  · simp only [Value.slice.injEq] at e; exact e.2.1
theorem TxZ.texts {w wr : World} {l : List ByteArray} {s : Option Addr} {n c : Nat} (h : TxZ w wr l (.slice s n c)) : TextsAt w.heap.size wr.heap.size wr s l := by
  obtain ⟨a, c', F, e, ho, _, hr, _⟩ := txs_of_row h.row
  simp only [Value.slice.injEq] at e
  obtain ⟨rfl, _, _⟩ := e
  exact ho.at_ hr
/-- The Class of a vector with other elements. -/
def kpC (levels cls : List ByteArray) : List ByteArray := match levels with | [] => [] | _ :: _ => cls
section
variable {ops : Array Oper} {Q : Exit → Act → World → Prop} {S : World → Prop}
variable {r : List (Nat × Bool)} {a : Act} {e : List (Nat × Value)} {w : World} {i d : Nat} {g : Option (Nat × Bool)} {v : Value}
end
/-- The elements of a vector at indexes. -/
noncomputable def selV (kk : Int) (items : List It) (parts : List Vec) (names cls levels : List ByteArray) (idx : List Nat) : Vec := .mk kk (pkL noI items idx) (pkL noV parts idx) (clnN (pkL ⟨#[]⟩ names idx)) (kpC levels cls) levels 0 0
theorem ItR.slice {w wr : World} {l : List It} {s : Option Addr} {n c : Nat} (h : ItR w wr l (.slice s n c)) : n = l.length := by
  obtain ⟨_, ⟨e, h0⟩ | ⟨g, cap, cur, e, _⟩⟩ := h.row
  · simp only [Value.slice.injEq] at e; omega
  · simp only [Value.slice.injEq] at e; exact e.2.1
end Go.Proofs.YtikgcogiiohahaaGreatDoor

/- What is owned at a depth is owned at every greater one. -/
namespace Go.Proofs.YtikgcogiiohahaaGreatDoor
open Go.RowKit
set_option maxRecDepth 100000
set_option linter.unusedVariables false

/-! What is owned at a depth is owned at every greater one. -/
theorem OwnVec.more : ∀ {w : World} (d : Nat) (v : Vec) (y : Value) (F : List Nat), OwnVec w d v y F → OwnVec w (d + 1) v y F
  | _, 0, _, _, _, h => by unfold OwnVec at h; exact h.elim
  | w, d + 1, .mk k items parts names cls levels code env, y, F, h => by
    unfold OwnVec at h ⊢
    obtain ⟨ai, ci, ap, cp, an, cn, ac, cc, al, cl, Fi, Fp, Fn, Fc, Fl, e, eF, hc, hI, hN, hC, hL, hP⟩ := h
    refine ⟨ai, ci, ap, cp, an, cn, ac, cc, al, cl, Fi, Fp, Fn, Fc, Fl, e, eF, hc, hI, hN, hC, hL, hP.imp id ?_⟩
    rintro ⟨b, C, Fs, e1, e2, e3, hb, hs, hp⟩
    refine ⟨b, C, Fs, e1, e2, e3, hb, hs, fun i hi => ?_⟩
    obtain ⟨val, ho, h8⟩ := hp i hi
    exact ⟨val, OwnVec.more d _ _ _ ho, h8⟩
theorem Own.le {d d' : Nat} (h : d ≤ d') {v : Vec} {y : Value} {lo hi : Nat} {w : World} (ho : Own d v y lo hi w) : Own d' v y lo hi w := by
  induction h with
  | refl => exact ho
  | step _ ih =>
    obtain ⟨F, q1, q2, q3⟩ := ih.out
    exact ⟨F, OwnVec.more _ _ _ _ q1, q2, q3⟩
end Go.Proofs.YtikgcogiiohahaaGreatDoor

/- Names, classes and levels that are given, as data. -/
namespace Go.Proofs.YtikgcogiiohahaaGreatDoor
open Go.RowKit
set_option maxRecDepth 100000
set_option linter.unusedVariables false

theorem FirstIs.hit {l : List It} {x : It} {r : Int} (h : FirstIs l x r) (hr : ¬ r < 0) : ∃ j, j < l.length ∧ l.getD j noI = x := by
  rcases h with ⟨e, _⟩ | ⟨j, _, h1, h2, _⟩
  · omega
  · exact ⟨j, h1, h2⟩
/-- "invalid names", "invalid class", "invalid levels" -/
def namB : ByteArray := ⟨#[105, 110, 118, 97, 108, 105, 100, 32, 110, 97, 109, 101, 115]⟩
def clsB : ByteArray := ⟨#[105, 110, 118, 97, 108, 105, 100, 32, 99, 108, 97, 115, 115]⟩
def levB : ByteArray := ⟨#[105, 110, 118, 97, 108, 105, 100, 32, 108, 101, 118, 101, 108, 115]⟩
/-- The strings of elements. -/
def txL (l : List It) : List ByteArray := l.map It.t
def setC (v : Vec) (c : List ByteArray) : Vec := match v with | .mk k i p n _ l co e => .mk k i p n c l co e
def setL (v : Vec) (l : List ByteArray) : Vec := match v with | .mk k i p n c _ co e => .mk k i p n c l co e
def setN (v : Vec) (n : List ByteArray) : Vec := match v with | .mk k i p _ c l co e => .mk k i p n c l co e
/-- A text vector or NULL. -/
def TxK (w : Vec) : Prop := kindV w = 3 ∨ kindV w = 0
/-- A vector with labels that were given: x is the vector as it would be. -/
noncomputable def lbV (x w v : Vec) : Vec := bif bB (ValidV v ∧ ValidV w) then (bif bB (TxK w ∧ ValidV x) then x else noV) else noV
noncomputable def lbS (p : ByteArray) (x w v : Vec) : ByteArray := bif bB (ValidV v ∧ ValidV w) then (bif bB (TxK w ∧ ValidV x) then ⟨#[]⟩ else p) else badB
/-- Texts, as many as n, empty ones behind. -/
def padT (l : List ByteArray) (n : Nat) : List ByteArray := (List.range n).map (fun i => l.getD i ⟨#[]⟩)
/-- Names that are given, as data. -/
def NmGo (v w : Vec) : Prop := TxK w ∧ (itemsV w).length ≤ lengthV v
def NoEl (v : Vec) : Prop := kindV v = 0 ∨ kindV v = 5
noncomputable def anN (v w : Vec) : List ByteArray := clnN (padT (txL (itemsV w)) (lengthV v))
noncomputable def anV (v w : Vec) : Vec := bif bB ((ValidV v ∧ ValidV w) ∧ ¬ NoEl v ∧ NmGo v w) then setN v (anN v w) else noV
noncomputable def anS (v w : Vec) : ByteArray := bif bB (ValidV v ∧ ValidV w) then (bif bB (NoEl v) then nelB else (bif bB (NmGo v w) then ⟨#[]⟩ else namB)) else badB
theorem Own.setN {k : Int} {items : List It} {parts : List Vec} {names cls levels : List ByteArray} {code env : Int} {d lo hi : Nat} {w : World} {c0 c1 c2 c3 c4 c5 c6 c7 : Value} (h : Own (d + 1) (.mk k items parts names cls levels code env) (.agg #[c0, c1, c2, c3, c4, c5, c6, c7]) lo hi w)
    {X : List ByteArray} {na : Option Addr} {nc lo2 hi2 : Nat} {Fx : List Nat} (hT : OwnTxs w na X Fx) (hn : Fx.Nodup) (hr : ∀ g ∈ Fx, lo2 ≤ g ∧ g < hi2) (hc : X.length ≤ nc) (h1 : hi ≤ lo2) (h2 : lo ≤ lo2) (h3 : hi ≤ hi2) : Own (d + 1) (.mk k items parts X cls levels code env) (.agg #[c0, c1, c2, .slice na X.length nc, c4, c5, c6, c7]) lo hi2 w := by
  obtain ⟨F, ho, hnd, hrg⟩ := h.out
  unfold OwnVec at ho
  obtain ⟨ai, ci, ap, cp, an, cn, ac, cc, al, cl, Fi, Fp, F0, Fc, Fl, e, rfl, hC, i1, i2, i3, i4, i5⟩ := ho
  simp only [Value.agg.injEq, Array.mk.injEq, List.cons.injEq, and_true] at e
  obtain ⟨rfl, rfl, rfl, rfl, rfl, rfl, rfl, rfl⟩ := e
  refine ⟨Fi ++ (Fp ++ (Fx ++ (Fc ++ Fl))), ?_, ?_, ?_⟩
  · unfold OwnVec
    exact ⟨ai, ci, ap, cp, na, nc, ac, cc, al, cl, Fi, Fp, Fx, Fc, Fl, rfl, rfl, ⟨hC.1, hC.2.1, hc, hC.2.2.2.1, hC.2.2.2.2⟩, i1, hT, i3, i4, i5⟩
  · have D : ∀ g, (g ∈ Fi ∨ g ∈ Fp ∨ g ∈ Fc ∨ g ∈ Fl) → g ∉ Fx := fun g hg hm => by
      have h4 := hr g hm
      have h5 := hrg g (by simp only [List.mem_append]; grind)
      omega
    simp only [List.nodup_append, List.mem_append] at hnd ⊢
    grind
  · intro g hg
    simp only [List.mem_append] at hg
    by_cases hm : g ∈ Fx
    · have := hr g hm; omega
    · have := hrg g (by simp only [List.mem_append]; grind); omega
theorem Own.setC {k : Int} {items : List It} {parts : List Vec} {names cls levels : List ByteArray} {code env : Int} {d lo hi : Nat} {w : World} {c0 c1 c2 c3 c4 c5 c6 c7 : Value} (h : Own (d + 1) (.mk k items parts names cls levels code env) (.agg #[c0, c1, c2, c3, c4, c5, c6, c7]) lo hi w)
    {X : List ByteArray} {na : Option Addr} {nc lo2 hi2 : Nat} {Fx : List Nat} (hT : OwnTxs w na X Fx) (hn : Fx.Nodup) (hr : ∀ g ∈ Fx, lo2 ≤ g ∧ g < hi2) (hc : X.length ≤ nc) (h1 : hi ≤ lo2) (h2 : lo ≤ lo2) (h3 : hi ≤ hi2) : Own (d + 1) (.mk k items parts names X levels code env) (.agg #[c0, c1, c2, c3, .slice na X.length nc, c5, c6, c7]) lo hi2 w := by
  obtain ⟨F, ho, hnd, hrg⟩ := h.out
  unfold OwnVec at ho
  obtain ⟨ai, ci, ap, cp, an, cn, ac, cc, al, cl, Fi, Fp, Fn, F0, Fl, e, rfl, hC, i1, i2, i3, i4, i5⟩ := ho
  simp only [Value.agg.injEq, Array.mk.injEq, List.cons.injEq, and_true] at e
  obtain ⟨rfl, rfl, rfl, rfl, rfl, rfl, rfl, rfl⟩ := e
  refine ⟨Fi ++ (Fp ++ (Fn ++ (Fx ++ Fl))), ?_, ?_, ?_⟩
  · unfold OwnVec
    exact ⟨ai, ci, ap, cp, an, cn, na, nc, al, cl, Fi, Fp, Fn, Fx, Fl, rfl, rfl, ⟨hC.1, hC.2.1, hC.2.2.1, hc, hC.2.2.2.2⟩, i1, i2, hT, i4, i5⟩
  · have D : ∀ g, (g ∈ Fi ∨ g ∈ Fp ∨ g ∈ Fn ∨ g ∈ Fl) → g ∉ Fx := fun g hg hm => by
      have h4 := hr g hm
      have h5 := hrg g (by simp only [List.mem_append]; grind)
      omega
    simp only [List.nodup_append, List.mem_append] at hnd ⊢
    grind
  · intro g hg
    simp only [List.mem_append] at hg
    by_cases hm : g ∈ Fx
    · have := hr g hm; omega
    · have := hrg g (by simp only [List.mem_append]; grind); omega
theorem Own.setL {k : Int} {items : List It} {parts : List Vec} {names cls levels : List ByteArray} {code env : Int} {d lo hi : Nat} {w : World} {c0 c1 c2 c3 c4 c5 c6 c7 : Value} (h : Own (d + 1) (.mk k items parts names cls levels code env) (.agg #[c0, c1, c2, c3, c4, c5, c6, c7]) lo hi w)
    {X : List ByteArray} {na : Option Addr} {nc lo2 hi2 : Nat} {Fx : List Nat} (hT : OwnTxs w na X Fx) (hn : Fx.Nodup) (hr : ∀ g ∈ Fx, lo2 ≤ g ∧ g < hi2) (hc : X.length ≤ nc) (h1 : hi ≤ lo2) (h2 : lo ≤ lo2) (h3 : hi ≤ hi2) : Own (d + 1) (.mk k items parts names cls X code env) (.agg #[c0, c1, c2, c3, c4, .slice na X.length nc, c6, c7]) lo hi2 w := by
  obtain ⟨F, ho, hnd, hrg⟩ := h.out
  unfold OwnVec at ho
  obtain ⟨ai, ci, ap, cp, an, cn, ac, cc, al, cl, Fi, Fp, Fn, Fc, F0, e, rfl, hC, i1, i2, i3, i4, i5⟩ := ho
  simp only [Value.agg.injEq, Array.mk.injEq, List.cons.injEq, and_true] at e
  obtain ⟨rfl, rfl, rfl, rfl, rfl, rfl, rfl, rfl⟩ := e
  refine ⟨Fi ++ (Fp ++ (Fn ++ (Fc ++ Fx))), ?_, ?_, ?_⟩
  · unfold OwnVec
    exact ⟨ai, ci, ap, cp, an, cn, ac, cc, na, nc, Fi, Fp, Fn, Fc, Fx, rfl, rfl, ⟨hC.1, hC.2.1, hC.2.2.1, hC.2.2.2.1, hc⟩, i1, i2, i3, hT, i5⟩
  · have D : ∀ g, (g ∈ Fi ∨ g ∈ Fp ∨ g ∈ Fn ∨ g ∈ Fc) → g ∉ Fx := fun g hg hm => by
      have h4 := hr g hm
      have h5 := hrg g (by simp only [List.mem_append]; grind)
      omega
    simp only [List.nodup_append, List.mem_append] at hnd ⊢
    grind
  · intro g hg
    simp only [List.mem_append] at hg
    by_cases hm : g ∈ Fx
    · have := hr g hm; omega
    · have := hrg g (by simp only [List.mem_append]; grind); omega
end Go.Proofs.YtikgcogiiohahaaGreatDoor

/- Which vectors are factors. -/
namespace Go.Proofs.YtikgcogiiohahaaGreatDoor
open Go.RowKit
set_option maxRecDepth 100000
set_option linter.unusedVariables false

def facB : ByteArray := ⟨#[102, 97, 99, 116, 111, 114]⟩
/-- A valid vector with levels whose only class is this one. -/
def FacV (v : Vec) : Prop := ValidV v ∧ match v with | .mk _ _ _ _ cls levels _ _ => ¬ levels.length = 0 ∧ cls = [facB]
end Go.Proofs.YtikgcogiiohahaaGreatDoor

/- The reference's copies of vectors. -/
namespace Go.Proofs.YtikgcogiiohahaaGreatDoor
set_option maxRecDepth 100000
open Go.RowKit
set_option linter.unusedVariables false
end Go.Proofs.YtikgcogiiohahaaGreatDoor

/- Parts appended to a vector under way; all parts of a valid vector, however deep, are vectors. -/
namespace Go.Proofs.YtikgcogiiohahaaGreatDoor
open Go.RowKit
set_option maxRecDepth 100000
set_option linter.unusedVariables false

section
variable {ops : Array Oper} {Q : Exit → Act → World → Prop} {S : World → Prop} {w0 : World} {L : List (Nat × TypeId × Array Value)}
variable {r : List (Nat × Bool)} {a : Act} {e : List (Nat × Value)} {w : World} {i d : Nat} {g : Option (Nat × Bool)} {v : Value}
end
end Go.Proofs.YtikgcogiiohahaaGreatDoor

/- Many elements appended; parts onto a vector under way. -/
namespace Go.Proofs.YtikgcogiiohahaaGreatDoor
open Go.RowKit
set_option maxRecDepth 100000
set_option linter.unusedVariables false

section
variable {P : Program} {ops : Array Oper} {Q : Exit → Act → World → Prop} {S : World → Prop}
variable {r : List (Nat × Bool)} {a : Act} {e : List (Nat × Value)} {w : World} {i d : Nat} {g : Option (Nat × Bool)} {v : Value}
/-- Many elements appended, none too. -/
theorem run_appM {t el : TypeId} {x y : Operand} {v0 : Value} (ho : opAt ops i = some (some d, .call { callee := .builtin .append, args := [x, y].toArray, argTypes := [t, t].toArray }, g)) (hd : Nat.blt d a.tmps.size = true) (hw : wantE ops a e g = some true)
    (hx : lookO a e x = v0) (ad : Option Addr) (m c : Nat) (hy : lookO a e y = .slice ad m c)
    (base : Nat) (ie : TypeInfo) (z : Value) (size bytes : Nat) (ht : P.underlying t = some (.slice el)) (hi : P.info? el = some ie) (hz : ie.zero = some z) (hsize : ie.size = size) (hby : ie.bytes = bytes) (hzs : z.cells.size = size) (hsz : 0 < size)
    (n : Nat) (xs : List Value) (hown : w.ownsRow base el size v0 n xs) (h0 : m = 0 → n = 0) (news : List Value) (hl : news.length = m * size) (hnews : 0 < m → ∃ b : Addr, ad = some b ∧ ∀ j u, news[j]? = some u → w.cell? (b.add j) = some u) (h1 : ∀ u ∈ news, u.oneCell' = true)
    (h63 : n + m ≤ maxLen) (hbytes : (n + m) * bytes ≤ 140737488355328) (hbase : base ≤ w.heap.size)
    (h : ∀ v' w', w'.ownsRow base el size v' (n + m) (xs ++ news) → w.grownBy w' v0.ownBlock → (v'.ownBlock = v0.ownBlock ∨ v'.ownBlock = some w.heap.size) → S w' ∧ RunE P ops Q S r a ((d, v') :: e) w') : RunE P ops Q S ((i, false) :: r) a e w := by
  by_cases hm : 0 < m
  · obtain ⟨b, rfl, hn2⟩ := hnews hm
    exact run_appAt ho hd hw hx b m c hy base ie z size bytes ht hi hz hsize hby hzs hsz n xs hown news hl hn2 h1 h63 hbytes hbase h
  · obtain rfl : m = 0 := by omega
    obtain rfl := h0 rfl
    have hxs : xs = [] := List.eq_nil_of_length_eq_zero (by rw [hown.1, Nat.zero_mul])
    subst hxs
    exact run_appW ho hd hw hx ad 0 c hy base ie z size bytes ht hi hz hsize hby hzs hsz hown news hl (fun h => absurd h (Nat.lt_irrefl _)) h1 (Nat.zero_le _) (by omega) hbase h
end
end Go.Proofs.YtikgcogiiohahaaGreatDoor

/- Any number of elements appended to a row of one's own, none too. -/
namespace Go.Proofs.YtikgcogiiohahaaGreatDoor
open Go.RowKit
set_option maxRecDepth 100000
set_option linter.unusedVariables false

end Go.Proofs.YtikgcogiiohahaaGreatDoor

/- Items and texts that a call has made, with their blocks. -/
namespace Go.Proofs.YtikgcogiiohahaaGreatDoor
open Go.RowKit
set_option maxRecDepth 100000
set_option linter.unusedVariables false

/-- Items and texts that a call has made, their blocks between lo and hi. -/
structure ItsC (a : Option Addr) (c : Nat) (l : List It) (F : List Nat) (lo hi : Nat) (w : World) : Prop where
  own : OwnIts w a l F
  nd : F.Nodup
  rg : ∀ g ∈ F, lo ≤ g ∧ g < hi
  hw : hi ≤ w.heap.size
  cap : l.length ≤ c
theorem ItsC.keep {a : Option Addr} {c : Nat} {l : List It} {F : List Nat} {lo hi : Nat} {w w' : World} (h : ItsC a c l F lo hi w) (hb : Below w.heap.size w w') : ItsC a c l F lo hi w' :=
  ⟨h.own.kept (fun g hg => hb.block g (Nat.lt_of_lt_of_le (h.rg g hg).2 h.hw)), h.nd, h.rg, Nat.le_trans h.hw hb.size, h.cap⟩
theorem ItsC.of {w0 w : World} {l : List It} {v : Value} (h : ItR w0 w l v) : ∃ a c F, v = .slice a l.length c ∧ ItsC a c l F w0.heap.size w.heap.size w := by
  obtain ⟨a, c, F, e, ho, hn, hr, hc⟩ := own_of_its h.row
  exact ⟨a, c, F, e, ho, hn, hr, Nat.le_refl _, hc⟩
structure TxsC (a : Option Addr) (c : Nat) (l : List ByteArray) (F : List Nat) (lo hi : Nat) (w : World) : Prop where
  own : OwnTxs w a l F
  nd : F.Nodup
  rg : ∀ g ∈ F, lo ≤ g ∧ g < hi
  hw : hi ≤ w.heap.size
  cap : l.length ≤ c
theorem TxsC.keep {a : Option Addr} {c : Nat} {l : List ByteArray} {F : List Nat} {lo hi : Nat} {w w' : World} (h : TxsC a c l F lo hi w) (hb : Below w.heap.size w w') : TxsC a c l F lo hi w' :=
  ⟨h.own.kept (fun g hg => hb.block g (Nat.lt_of_lt_of_le (h.rg g hg).2 h.hw)), h.nd, h.rg, Nat.le_trans h.hw hb.size, h.cap⟩
theorem TxsC.of {base : Nat} {w : World} {l : List ByteArray} {v : Value} (h : CopyTx base l v w) : ∃ a c F, v = .slice a l.length c ∧ TxsC a c l F base w.heap.size w := by
  obtain ⟨a, c, F, e, ho, hn, hr, hc⟩ := h
  exact ⟨a, c, F, e, ho, hn, hr, Nat.le_refl _, hc⟩
theorem ItsC.same {a : Option Addr} {c : Nat} {l : List It} {F : List Nat} {lo hi : Nat} {w w' : World} (h : ItsC a c l F lo hi w) (hk : ∀ g, lo ≤ g → g < hi → w'.heap[g]? = w.heap[g]?) (hs : w.heap.size ≤ w'.heap.size) : ItsC a c l F lo hi w' :=
  ⟨h.own.kept (fun g hg => hk g (h.rg g hg).1 (h.rg g hg).2), h.nd, h.rg, Nat.le_trans h.hw hs, h.cap⟩
theorem TxsC.same {a : Option Addr} {c : Nat} {l : List ByteArray} {F : List Nat} {lo hi : Nat} {w w' : World} (h : TxsC a c l F lo hi w) (hk : ∀ g, lo ≤ g → g < hi → w'.heap[g]? = w.heap[g]?) (hs : w.heap.size ≤ w'.heap.size) : TxsC a c l F lo hi w' :=
  ⟨h.own.kept (fun g hg => hk g (h.rg g hg).1 (h.rg g hg).2), h.nd, h.rg, Nat.le_trans h.hw hs, h.cap⟩
theorem its_of_own {k : Int} {L : List It} {y : Value} {lo hi : Nat} {w : World} (h : Own 1 (vecOf k L) y lo hi w) (hw : hi ≤ w.heap.size) : ∃ yi ci yp cp yn cn yc cc yl cl Fi, y = .agg #[.int .i64 k, .slice yi L.length ci, .slice yp 0 cp, .slice yn 0 cn, .slice yc 0 cc, .slice yl 0 cl, .int .i64 0, .int .i64 0] ∧ ItsC yi ci L Fi lo hi w := by
  obtain ⟨F, ho, hnd, hrg⟩ := h.out
  have ho : OwnVec w 1 (.mk k L [] [] [] [] 0 0) y F := ho
  unfold OwnVec at ho
  obtain ⟨ai, ci, ap, cp, an, cn, ac, cc, al, cl, Fi, Fp, Fn, Fc, Fl, e, rfl, hC, i1, i2, i3, i4, i5⟩ := ho
  exact ⟨ai, ci, ap, cp, an, cn, ac, cc, al, cl, Fi, e, i1, (List.nodup_append.1 hnd).1, fun g hg => hrg g (List.mem_append.2 (.inl hg)), hw, hC.1⟩
end Go.Proofs.YtikgcogiiohahaaGreatDoor

/- Laws on two vectors: what a region that calls on both keeps. -/
namespace Go.Proofs.YtikgcogiiohahaaGreatDoor
set_option maxRecDepth 100000
open Go.RowKit
set_option linter.unusedVariables false

/-- A vector that may be read. -/
structure VatH (d : Nat) (v : Vec) (y : Value) (w : World) : Prop where
  out : VecAt 0 w.heap.size w d v y
theorem VatH.keep {d : Nat} {v : Vec} {y : Value} {w w1 : World} (h : VatH d v y w) (hb : Below w.heap.size w w1) : VatH d v y w1 := ⟨VecAt.wide (Nat.le_refl _) hb.size _ _ _ (h.out.below hb (Nat.le_refl _))⟩
theorem ResV.vatH {d : Nat} {v : Vec} {y : Value} {lo : Nat} {w : World} (h : Own d v y lo w.heap.size w) : VatH d v y w := ⟨h.vat (Nat.le_refl _)⟩
/-- A vector of one's own in a range, kept. -/
structure OwnH (d : Nat) (V : Vec) (y : Value) (lo hi : Nat) (w : World) : Prop where
  own : Own d V y lo hi w
  hh : hi ≤ w.heap.size
theorem OwnH.keep {d : Nat} {V : Vec} {y : Value} {lo hi : Nat} {w w1 : World} (h : OwnH d V y lo hi w) (hb : Below w.heap.size w w1) : OwnH d V y lo hi w1 := ⟨h.own.below hb h.hh, Nat.le_trans h.hh hb.size⟩
theorem Own.rowO {d : Nat} {V : Vec} {y : Value} {lo hi g : Nat} {c : Array Value} {w : World} (h : Own d V y lo hi w) (hg : g < lo ∨ hi ≤ g) : Own d V y lo hi (w.setRow g c) := by
  obtain ⟨F, q1, q2, q3⟩ := h.out
  exact ⟨F, q1.kept _ _ _ _ (fun b hb => row_old rfl (by have := q3 b hb; omega)), q2, q3⟩
/-- A vector that was made and put into a variable of its own. -/
structure MadeU (V : Vec) (wk wx : World) (g : Nat) (C : Array Value) : Prop where
  blk : wx.heap[g]? = some (.cells C 31 (0, 0))
  own : Own 1 V (.agg C) wk.heap.size wx.heap.size wx
  below : Below wk.heap.size wk wx
  lo : wk.heap.size ≤ g
theorem MadeU.cells {V : Vec} {wk wx : World} {g : Nat} {C : Array Value} (h : MadeU V wk wx g C) : ∃ (k : Int) (a1 : Option Addr) (n1 m1 : Nat) (a2 : Option Addr) (n2 m2 : Nat) (a3 : Option Addr) (n3 m3 : Nat) (a4 : Option Addr) (n4 m4 : Nat) (a5 : Option Addr) (n5 m5 : Nat) (code env : Int), C = #[.int .i64 k, .slice a1 n1 m1, .slice a2 n2 m2, .slice a3 n3 m3, .slice a4 n4 m4, .slice a5 n5 m5, .int .i64 code, .int .i64 env] := by
  obtain ⟨k, a1, n1, m1, a2, n2, m2, a3, n3, m3, a4, n4, m4, a5, n5, m5, c, e, h'⟩ := h.own.agg
  simp only [Value.agg.injEq] at h'
  exact ⟨k, a1, n1, m1, a2, n2, m2, a3, n3, m3, a4, n4, m4, a5, n5, m5, c, e, h'⟩
section
variable {P : Program} {ops : Array Oper} {Q : Exit → Act → World → Prop} {S : World → Prop}
variable {r : List (Nat × Bool)} {a : Act} {e : List (Nat × Value)} {w : World} {i d : Nat} {g : Option (Nat × Bool)} {v : Value}
/-- A part of a call's several results. -/
theorem run_extract {x : Operand} {k : Nat} {vs : Array Value} (ho : opAt ops i = some (some d, .extract x k, g)) (hd : Nat.blt d a.tmps.size = true) (hw : wantE ops a e g = some true)
    (hx : lookO a e x = .tuple vs) (hv : vs[k]? = some v) (h : RunE P ops Q S r a ((d, v) :: e) w) : RunE P ops Q S ((i, true) :: r) a e w :=
  run_yield ho hd hw (fun o w' h1 _ => by
    unfold execOp; rw [h1]; simp only [hx]
    refine run_v ?_
    unfold Instr.extract
    simp only [hv]
    rfl) h
end
/-- A mark that goes on from k. -/
theorem markOwnK (d : Nat) (V : Vec) (y : Value) (k : Nat) (lo hi : Nat) (w : World) (h : Own d V y lo hi w) (hh : hi ≤ w.heap.size) (hs : Small d V) (hk : 1 ≤ k) (hc : k + cntM d V ≤ 8000000) :
    Calls Tryz.prog 9 #[y, .int .i64 k] w fun e w' => e = .returned (.int .i64 ((k + cntM d V : Nat) : Int)) ∧ Within lo hi w w' := by
  obtain ⟨F, h1, h2, h3⟩ := h.out
  refine (markVec d V y k F w h1 h2 (fun b hb => by have := h3 b hb; omega) hs hk hc).mono ?_
  rintro e w' ⟨rfl, ho, t⟩
  exact ⟨rfl, t.within h3⟩
end Go.Proofs.YtikgcogiiohahaaGreatDoor

/- Vectors that come in as arguments of the laws. -/
namespace Go.Proofs.YtikgcogiiohahaaGreatDoor
open Go.ChangeShapes Go.WideShapes Go.RowKit Go.Deep
open Go.ChangeMaps (open_string shut_string)
set_option maxRecDepth 100000
set_option linter.unusedVariables false

theorem list_of {α : Type} (P : Nat → α → Prop) : ∀ n, (∀ i, i < n → ∃ v, P i v) → ∃ l : List α, l.length = n ∧ ∀ i v, l[i]? = some v → P i v
  | 0, _ => ⟨[], rfl, fun i v h => by simp at h⟩
  | n + 1, h => by
    obtain ⟨l, hl, hp⟩ := list_of P n (fun i hi => h i (by omega))
    obtain ⟨v, hv⟩ := h n (by omega)
    refine ⟨l ++ [v], by simp [hl], fun i x hx => ?_⟩
    by_cases hi : i < n
    · rw [List.getElem?_append_left (by omega)] at hx; exact hp i x hx
    · rw [List.getElem?_append_right (by omega)] at hx
      have : i - l.length = 0 := by
        rcases Nat.eq_zero_or_pos (i - l.length) with e | e
        · exact e
        · rw [List.getElem?_eq_none (by simp; omega)] at hx; cases hx
      rw [this] at hx
      simp at hx
      subst hx
      have : i = n := by omega
      subst this; exact hv
theorem cell_ltV {w : World} {p : Addr} {v : Value} (h : w.cell? p = some v) : p.block < w.heap.size := by
  unfold World.cell? at h
  rcases Nat.lt_or_ge p.block w.heap.size with h' | h'
  · exact h'
  · rw [Array.getElem?_eq_none h'] at h; cases h
theorem add_off {b o j : Nat} : (⟨b, o, none⟩ : Addr).add j = ⟨b, o + j, none⟩ := by
  unfold Addr.add; split
  · rename_i h; subst h; rfl
  · rfl

section
variable {H : Type} {enc : TypeId × Value → H} {P : Program} {w : World} {base : Nat} {spare : Nat → Bool} {held : Bool}
/-- A slice of structs of one-cell fields, opened: the cells of each element and what each reads as. -/
theorem open_structs {t e : TypeId} {fs : Array Field} {fuel : Nat} {a : Option Addr} {len cap : Nat} {x : DataW H × List MemPlace} (ht : P.underlying t = some (.slice e)) (he : P.underlying e = some (.struct fs))
    (hone : oneCellFields P fs = true) (hC : P.cellsOf e = fs.size) (hpos : 0 < fs.size) (h : DataW.trod enc P w base spare held fuel t [.slice a len cap] = some x) :
    len ≤ maxLen ∧ ∀ i, i < len → ∃ b o n, n < fuel ∧ a = some ⟨b, o, none⟩ ∧ b < w.heap.size ∧
        ∀ (j : Nat) (f : Field), fs[j]? = some f → ∃ (v : Value) (y : DataW H × List MemPlace), w.cell? ⟨b, o + i * fs.size + j, none⟩ = some v ∧ DataW.trod enc P w base spare held n f.type [v] = some y := by
  rcases DataW.trod_slice ht h with ⟨h0, _⟩ | ⟨ad, len', cap', elems, rest, n, hn, hcs, _, hb, hl, hm, hlen, hel, _, _⟩
  · simp only [List.cons.injEq, Value.slice.injEq, and_true] at h0
    obtain ⟨rfl, rfl, rfl⟩ := h0
    exact ⟨Nat.zero_le _, fun i hi => absurd hi (Nat.not_lt_zero _)⟩
  · simp only [List.cons.injEq, Value.slice.injEq, and_true] at hcs
    obtain ⟨rfl, rfl, rfl⟩ := hcs
    refine ⟨Nat.le_trans hl hm, fun i hi => ?_⟩
    obtain ⟨b, o, spot⟩ := ad
    have hspot : spot = none := by
      have key := hel 0 (by omega)
      rw [List.getElem?_eq_getElem (by omega)] at key
      obtain ⟨cs', hc, ht'⟩ := Option.bind_eq_some_iff.1 key
      rw [hC] at hc
      obtain ⟨ys, n', hn', hy, hlen', hyl, hf⟩ := DataW.trod_struct he ht'
      obtain ⟨_, hcl, hat⟩ := World.cells?_some hc
      have h00 := hat 0 hpos
      rw [List.getElem?_eq_getElem (by omega)] at h00
      simpa [Addr.add] using World.cell?_spot h00
    subst hspot
    have key := hel i hi
    rw [List.getElem?_eq_getElem (by omega)] at key
    obtain ⟨cs', hc, ht'⟩ := Option.bind_eq_some_iff.1 key
    rw [hC] at hc
    obtain ⟨ys, n', hn', hy, hlen', hyl, hf⟩ := DataW.trod_struct he ht'
    obtain ⟨_, hcl, hat⟩ := World.cells?_some hc
    have h00 := hat 0 hpos
    rw [List.getElem?_eq_getElem (by omega)] at h00
    rw [add_off, add_off] at h00
    refine ⟨b, o, n', by omega, rfl, cell_ltV h00, fun j f hj => ?_⟩
    obtain ⟨ho, hk⟩ := hone_of hone j f hj
    have hjl : j < fs.size := (Array.getElem?_eq_some_iff.1 hj).1
    have hcell := hat j hjl
    have hv : cs'[j]? = some (cs'[j]'(by omega)) := List.getElem?_eq_getElem (by omega)
    have h1 := hf j f hj
    rw [ho, hk] at h1
    have hone' : (cs'.drop j).take 1 = [cs'[j]'(by omega)] := by
      rw [List.drop_eq_getElem_cons (by omega)]
      rfl
    rw [hone'] at h1
    have hys : ys[j]? = some (ys[j]'(by omega)) := List.getElem?_eq_getElem (by omega)
    refine ⟨_, _, ?_, h1.trans hys⟩
    rw [add_off, add_off] at hcell
    rw [hcell, hv]
/-- A struct of one-cell fields by its cells. -/
theorem open_cells {e : TypeId} {fs : Array Field} {fuel : Nat} {cs : List Value} {x : DataW H × List MemPlace} (he : P.underlying e = some (.struct fs))
    (hone : oneCellFields P fs = true) (hC : P.cellsOf e = fs.size) (h : DataW.trod enc P w base spare held fuel e cs = some x) :
    cs.length = fs.size ∧ ∃ n, n < fuel ∧ ∀ (j : Nat) (f : Field), fs[j]? = some f → ∃ (v : Value) (y : DataW H × List MemPlace), cs[j]? = some v ∧ DataW.trod enc P w base spare held n f.type [v] = some y := by
  obtain ⟨ys, n', hn', hy, hlen', hyl, hf⟩ := DataW.trod_struct he h
  rw [hC] at hlen'
  refine ⟨hlen', n', by omega, fun j f hj => ?_⟩
  obtain ⟨ho, hk⟩ := hone_of hone j f hj
  have hjl : j < fs.size := (Array.getElem?_eq_some_iff.1 hj).1
  have h1 := hf j f hj
  rw [ho, hk] at h1
  have hone' : (cs.drop j).take 1 = [cs[j]'(by omega)] := by
    rw [List.drop_eq_getElem_cons (by omega)]
    rfl
  rw [hone'] at h1
  have hys : ys[j]? = some (ys[j]'(by omega)) := List.getElem?_eq_getElem (by omega)
  exact ⟨_, _, List.getElem?_eq_getElem (by omega), h1.trans hys⟩
end
theorem VecAt.le {lo hi : Nat} {w : World} {d d' : Nat} (h : d ≤ d') {v : Vec} {val : Value} (hv : VecAt lo hi w d v val) : VecAt lo hi w d' v val := by
  induction h with
  | refl => exact hv
  | step _ ih => exact VecAt.more _ _ _ ih
theorem Fits.more : ∀ (d : Nat) (v : Vec), Fits d v → Fits (d + 1) v
  | 0, _, h => h.elim
  | d + 1, .mk _ _ _ _ _ _ _ _, h => by
    unfold Fits at h ⊢
    obtain ⟨h1, h2, h3, h4, h5, h6, h7, h8, h9, h10, h11, h12, h13⟩ := h
    exact ⟨h1, h2, h3, h4, h5, h6, h7, h8, h9, h10, h11, h12, fun p hp => Fits.more d p (h13 p hp)⟩
theorem Fits.le {d d' : Nat} (h : d ≤ d') {v : Vec} (hv : Fits d v) : Fits d' v := by
  induction h with
  | refl => exact hv
  | step _ ih => exact Fits.more _ _ ih

section
variable {H : Type} {enc : TypeId × Value → H} {W : World} {base : Nat} {sp : Nat → Bool} {held : Bool}
theorem slice_form {P : Program} {t e : TypeId} {fuel : Nat} {v : Value} {x : DataW H × List MemPlace} (ht : P.underlying t = some (.slice e)) (h : DataW.trod enc P W base sp held fuel t [v] = some x) : ∃ a n cap, v = .slice a n cap ∧ n ≤ cap := by
  rcases DataW.trod_slice ht h with ⟨h0, _⟩ | ⟨ad, len', cap', elems, rest, n, hn, hcs, _, hb, hl, _⟩
  · simp only [List.cons.injEq, and_true] at h0; exact ⟨_, _, _, h0, Nat.le_refl _⟩
  · simp only [List.cons.injEq, and_true] at hcs; exact ⟨_, _, _, hcs, hl⟩
theorem texts_in {fuel : Nat} {v : Value} {x : DataW H × List MemPlace} (h : DataW.trod enc Tryz.prog W base sp held fuel 24 [v] = some x) :
    ∃ (l : List ByteArray) (a : Option Addr) (cap : Nat), v = .slice a l.length cap ∧ TextsAt 0 W.heap.size W a l ∧ l.length ≤ maxLen ∧ (∀ s ∈ l, s.size ≤ maxLen) ∧ l.length ≤ cap := by
  obtain ⟨a, n, cap, rfl, hcap⟩ := slice_form Tryz.underlying24 h
  obtain ⟨f, hf, hn, hs⟩ := strs_in (a := a) (n := n) (cap := cap) h
  refine ⟨(List.range n).map f, a, cap, by simp, fun i x hx => ?_, by simpa using hn, fun s hs' => ?_, by simpa using hcap⟩
  · obtain ⟨hi, rfl⟩ := List.getElem?_eq_some_iff.1 hx
    obtain ⟨b, off, e, hb, hc⟩ := hf i (by simpa using hi)
    exact ⟨b, off, e, Nat.zero_le _, hb, by simpa using hc⟩
  · obtain ⟨i, _, rfl⟩ := List.mem_map.1 hs'
    exact hs i
theorem items_in {fuel : Nat} {v : Value} {x : DataW H × List MemPlace} (h : DataW.trod enc Tryz.prog W base sp held fuel 22 [v] = some x) :
    ∃ (l : List It) (a : Option Addr) (cap : Nat), v = .slice a l.length cap ∧ ItemsAt 0 W.heap.size W a l ∧ l.length ≤ maxLen ∧ (∀ x ∈ l, (-9223372036854775808 ≤ x.n ∧ x.n ≤ 9223372036854775807) ∧ (-9223372036854775808 ≤ x.d ∧ x.d ≤ 9223372036854775807) ∧ x.t.size ≤ maxLen) ∧ l.length ≤ cap := by
  obtain ⟨a, n, cap, rfl, hcap⟩ := slice_form Tryz.underlying22 h
  obtain ⟨hn, hi⟩ := open_structs Tryz.underlying22 Tryz.underlying61 (by kernel_rfl) (by kernel_rfl) (by decide) h
  obtain ⟨l, hl, hp⟩ := list_of (fun i (x : It) => ∃ b off, a = some ⟨b, off, none⟩ ∧ b < W.heap.size ∧ W.cell? ⟨b, off + i * 3, none⟩ = some (.int .i64 x.n) ∧ W.cell? ⟨b, off + i * 3 + 1, none⟩ = some (.int .i64 x.d) ∧ W.cell? ⟨b, off + i * 3 + 2, none⟩ = some (.string x.t) ∧ InB x) n (by
    intro i hin
    obtain ⟨b, o, m, hm, ha, hb, hf⟩ := hi i hin
    obtain ⟨v0, y0, c0, t0⟩ := hf 0 _ rfl
    obtain ⟨v1, y1, c1, t1⟩ := hf 1 _ rfl
    obtain ⟨v2, y2, c2, t2⟩ := hf 2 _ rfl
    obtain ⟨n0, e0, _, b0⟩ := DataW.trod_int Tryz.underlying3 t0
    obtain ⟨n1, e1, _, b1⟩ := DataW.trod_int Tryz.underlying3 t1
    obtain ⟨s, e2, _, b2⟩ := DataW.trod_string Tryz.underlying9 t2
    simp at e0 e1 e2
    subst e0 e1 e2
    exact ⟨⟨n0, n1, s⟩, b, o, ha, hb, c0, c1, c2, bounds_i64 b0, bounds_i64 b1, b2⟩)
  subst hl
  refine ⟨l, a, cap, rfl, fun i x hx => ?_, hn, fun x hx => ?_, hcap⟩
  · obtain ⟨b, off, e, hb, c0, c1, c2, _⟩ := hp i x hx
    exact ⟨b, off, e, Nat.zero_le _, hb, c0, c1, c2⟩
  · obtain ⟨i, hi'⟩ := List.getElem?_of_mem hx
    obtain ⟨_, _, _, _, _, _, _, hb⟩ := hp i x hi'
    exact hb
/-- A vector that came in, by its fields. -/
theorem vec_fields : ∀ (fuel : Nat) (c0 c1 c2 c3 c4 c5 c6 c7 : Value) (y0 y1 y2 y3 y4 y5 y6 y7 : DataW H × List MemPlace), DataW.trod enc Tryz.prog W base sp held fuel 3 [c0] = some y0 → DataW.trod enc Tryz.prog W base sp held fuel 22 [c1] = some y1 →
    DataW.trod enc Tryz.prog W base sp held fuel 23 [c2] = some y2 → DataW.trod enc Tryz.prog W base sp held fuel 24 [c3] = some y3 → DataW.trod enc Tryz.prog W base sp held fuel 24 [c4] = some y4 → DataW.trod enc Tryz.prog W base sp held fuel 24 [c5] = some y5 →
    DataW.trod enc Tryz.prog W base sp held fuel 3 [c6] = some y6 → DataW.trod enc Tryz.prog W base sp held fuel 3 [c7] = some y7 →
    ∃ v, VecAt 0 W.heap.size W (fuel + 1) v (.agg #[c0, c1, c2, c3, c4, c5, c6, c7]) ∧ Fits (fuel + 1) v := by
  intro fuel
  induction fuel using Nat.strongRecOn with
  | ind fuel IH =>
    intro c0 c1 c2 c3 c4 c5 c6 c7 y0 y1 y2 y3 y4 y5 y6 y7 t0 t1 t2 t3 t4 t5 t6 t7
    obtain ⟨kk, e0, _, b0⟩ := DataW.trod_int Tryz.underlying3 t0
    obtain ⟨code, e6, _, b6⟩ := DataW.trod_int Tryz.underlying3 t6
    obtain ⟨env, e7, _, b7⟩ := DataW.trod_int Tryz.underlying3 t7
    simp at e0 e6 e7
    subst e0 e6 e7
    obtain ⟨items, ai, ci, rfl, hI, hIn, hIb, qI⟩ := items_in t1
    obtain ⟨names, an, cn, rfl, hN, hNn, hNb, qN⟩ := texts_in t3
    obtain ⟨cls, ac, cc, rfl, hC, hCn, hCb, qC⟩ := texts_in t4
    obtain ⟨levels, al, cl, rfl, hL, hLn, hLb, qL⟩ := texts_in t5
    obtain ⟨ap, n, cp, rfl, qP⟩ := slice_form Tryz.underlying23 t2
    obtain ⟨hn, hi⟩ := open_structs Tryz.underlying23 Tryz.underlying26 (by kernel_rfl) (by kernel_rfl) (by decide) t2
    obtain ⟨parts, hl, hp⟩ := list_of (fun i (p : Vec) => (∃ b off u0 u1 u2 u3 u4 u5 u6 u7, ap = some ⟨b, off, none⟩ ∧ 0 ≤ b ∧ b < W.heap.size ∧ VecAt 0 W.heap.size W fuel p (.agg #[u0, u1, u2, u3, u4, u5, u6, u7]) ∧
        W.cell? ⟨b, off + i * 8, none⟩ = some u0 ∧ W.cell? ⟨b, off + i * 8 + 1, none⟩ = some u1 ∧ W.cell? ⟨b, off + i * 8 + 2, none⟩ = some u2 ∧ W.cell? ⟨b, off + i * 8 + 3, none⟩ = some u3 ∧ W.cell? ⟨b, off + i * 8 + 4, none⟩ = some u4 ∧ W.cell? ⟨b, off + i * 8 + 5, none⟩ = some u5 ∧ W.cell? ⟨b, off + i * 8 + 6, none⟩ = some u6 ∧ W.cell? ⟨b, off + i * 8 + 7, none⟩ = some u7) ∧ Fits fuel p) n (by
      intro i hin
      obtain ⟨b, o, m, hm, ha, hb, hf⟩ := hi i hin
      obtain ⟨v0, z0, q0, s0⟩ := hf 0 _ rfl
      obtain ⟨v1, z1, q1, s1⟩ := hf 1 _ rfl
      obtain ⟨v2, z2, q2, s2⟩ := hf 2 _ rfl
      obtain ⟨v3, z3, q3, s3⟩ := hf 3 _ rfl
      obtain ⟨v4, z4, q4, s4⟩ := hf 4 _ rfl
      obtain ⟨v5, z5, q5, s5⟩ := hf 5 _ rfl
      obtain ⟨v6, z6, q6, s6⟩ := hf 6 _ rfl
      obtain ⟨v7, z7, q7, s7⟩ := hf 7 _ rfl
      obtain ⟨v, hv, hfit⟩ := IH m hm v0 v1 v2 v3 v4 v5 v6 v7 _ _ _ _ _ _ _ _ s0 s1 s2 s3 s4 s5 s6 s7
      exact ⟨v, ⟨b, o, v0, v1, v2, v3, v4, v5, v6, v7, ha, Nat.zero_le _, hb, hv.le (by omega), q0, q1, q2, q3, q4, q5, q6, q7⟩, hfit.le (by omega)⟩)
    subst hl
    refine ⟨.mk kk items parts names cls levels code env, vecAt_mk hI hN hC hL (fun i p hp' => (hp i p hp').1) ⟨qI, qP, qN, qC, qL⟩, ?_⟩
    unfold Fits
    refine ⟨bounds_i64 b0, bounds_i64 b6, bounds_i64 b7, hIn, hn, hNn, hCn, hLn, hIb, hNb, hCb, hLb, fun p hp' => ?_⟩
    obtain ⟨i, hi'⟩ := List.getElem?_of_mem hp'
    exact (hp i p hi').2
/-- A vector that came in. -/
theorem vec_in {b0 : Nat} {r : Reach} {v : Value} {dt : DataW H} {p : List MemPlace} (hv : Value.okWide Tryz.prog W r b0 26 v) (h : DataW.Trod enc Tryz.prog W base sp held 26 v dt p) :
    ∃ (d : Nat) (x : Vec), VecAt 0 W.heap.size W d x v ∧ Fits d x := by
  obtain ⟨cs, rfl, hsz⟩ := okWide_struct Tryz.underlying26 hv
  obtain ⟨fuel, hf⟩ := h
  obtain ⟨hlen, n, hn, hg⟩ := open_cells Tryz.underlying26 (by kernel_rfl) (by kernel_rfl) hf
  obtain ⟨l⟩ := cs
  match l, hlen with
  | [c0, c1, c2, c3, c4, c5, c6, c7], _ =>
    obtain ⟨v0, z0, q0, s0⟩ := hg 0 _ rfl
    obtain ⟨v1, z1, q1, s1⟩ := hg 1 _ rfl
    obtain ⟨v2, z2, q2, s2⟩ := hg 2 _ rfl
    obtain ⟨v3, z3, q3, s3⟩ := hg 3 _ rfl
    obtain ⟨v4, z4, q4, s4⟩ := hg 4 _ rfl
    obtain ⟨v5, z5, q5, s5⟩ := hg 5 _ rfl
    obtain ⟨v6, z6, q6, s6⟩ := hg 6 _ rfl
    obtain ⟨v7, z7, q7, s7⟩ := hg 7 _ rfl
    simp only [Value.cells, List.getElem?_cons_zero, List.getElem?_cons_succ, Option.some.injEq] at q0 q1 q2 q3 q4 q5 q6 q7
    subst q0 q1 q2 q3 q4 q5 q6 q7
    obtain ⟨x, hx, hfit⟩ := vec_fields n _ _ _ _ _ _ _ _ _ _ _ _ _ _ _ _ s0 s1 s2 s3 s4 s5 s6 s7
    exact ⟨_, x, hx, hfit⟩
end
end Go.Proofs.YtikgcogiiohahaaGreatDoor
