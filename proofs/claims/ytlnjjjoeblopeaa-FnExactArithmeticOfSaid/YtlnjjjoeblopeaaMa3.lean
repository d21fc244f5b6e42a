/- A region that draws its order where two operations that change the world may come up at once: the orders as a tree. -/
import Derived.Test.YtlnjjjoeblopeaaRows
import Derived.Test.YtlnjjjoeblopeaaMg1
import Derived.Test.YtlnjjjoeblopeaaMa2
import Derived.Test.YtlnjjjoeblopeaaReserved
import Derived.WalkKit
import Derived.Lib.Hide
import Derived.OwnWalk
import Derived.Deep.RegionHeld3
import Derived.Laws.EntriesVeiled
import Derived.Deep.DeepCutAuto
namespace Go.Proofs.Ytlnjjjoeblopeaa
set_option maxRecDepth 100000
open Go.RowKit
set_option linter.unusedVariables false

/-- An order, or an order behind which either of two operations comes up. -/
inductive Plan where
  | leaf (r : List (Nat × Bool))
  | fork (r : List (Nat × Bool)) (i : Nat) (p : Plan) (j : Nat) (q : Plan)
def Plan.cons (i : Nat) : Plan → Plan
  | .leaf r => .leaf ((i, false) :: r)
  | .fork r j p k q => .fork ((i, false) :: r) j p k q
def Plan.len : Plan → Nat
  | .leaf r => r.length
  | .fork r _ p _ _ => r.length + (p.len + 1)
section
variable {P : Program} {ops : Array Oper} {Q : Exit → Act → World → Prop} {S : World → Prop}
theorem wp_weak {Q' : Exit → Act → World → Prop} {o : Oper} {a : Act} {w : World} {K : Act → World → Prop} (hP : ∀ c a w, Q' (.panic c) a w → Q (.panic c) a w) (hL : LetsOut Q' → LetsOut Q) (hh : o.wp P a w K Q') : o.wp P a w K Q := by
  unfold Oper.wp at *
  generalize (execOp a.eval o).run P w = r at *
  cases r with
  | ok n w' =>
    cases n <;> simp only [Oper.upon] at hh ⊢ <;>
      first
        | exact hh
        | exact Calls.mono hh (fun e w'' he => by cases e <;> first | exact he | exact hP _ _ _ he | exact hL he)
  | halt x w' => cases x <;> simp only [Oper.upon] at hh ⊢ <;> first | exact hP _ _ _ hh | exact hh
theorem wpOp_weak {Q' : Exit → Act → World → Prop} {i : Nat} {a : Act} {w : World} {K : Act → World → Prop} (hP : ∀ c a w, Q' (.panic c) a w → Q (.panic c) a w) (hL : LetsOut Q' → LetsOut Q) (hh : wpOp P ops Q' i K a w) : wpOp P ops Q i K a w := by
  unfold wpOp at *
  split
  · simpa [*] using hh
  · rename_i o ho
    simp only [ho] at hh
    split
    · rename_i hw; simp only [hw, if_true] at hh; exact hh.imp (wp_weak hP hL) (fun h => ⟨h.1, hL h.2⟩)
    · rename_i hw; simp only [hw] at hh; exact hh
/-- What a fork asks at its end, and Q for all other exits. -/
def forkQ (Q : Exit → Act → World → Prop) (F : Act → World → Prop) : Exit → Act → World → Prop := fun x a w => match x with | .normal => F a w | y => Q y a w
def preOK (ops : Array Oper) : List (Nat × Bool) → Array Bool → Bool
  | [], _ => true
  | (i, true) :: r, listed => Region.free .any ops listed i && (Region.ready .any ops listed).contains i && preOK ops r (listed.setIfInBounds i true)
  | (i, false) :: r, listed => (Region.ready .any ops listed == [i]) && preOK ops r (listed.setIfInBounds i true)
def behind : List (Nat × Bool) → Array Bool → Array Bool
  | [], l => l
  | (i, _) :: r, l => behind r (l.setIfInBounds i true)
def planOK (ops : Array Oper) : Plan → Array Bool → Bool
  | .leaf r, l => schedOK ops r l
  | .fork r i p j q, l => preOK ops r l && (Region.ready .any ops (behind r l) == [i, j]) && !lastK ops i && !lastK ops j && Nat.beq p.len q.len && planOK ops p ((behind r l).setIfInBounds i true) && planOK ops q ((behind r l).setIfInBounds j true)
def seqP (P : Program) (ops : Array Oper) (Q : Exit → Act → World → Prop) (S : World → Prop) : Plan → Act → World → Prop
  | .leaf r, a, w => seqH P ops Q S r a w
  | .fork r i p j q, a, w => seqH P ops (forkQ Q fun a' w' => S w' ∧ wpOp P ops Q i (fun b v => (lastK ops i = true ∨ S v) ∧ seqP P ops Q S p b v) a' w' ∧ wpOp P ops Q j (fun b v => (lastK ops j = true ∨ S v) ∧ seqP P ops Q S q b v) a' w') S r a w
theorem pre_nil {r : List (Nat × Bool)} {l : Array Bool} (h : preOK ops r l = true) (hr : Region.ready .any ops l = []) : r = [] := by
  match r, h with
  | [], _ => rfl
  | (i, true) :: r, h => simp [preOK, hr] at h
  | (i, false) :: r, h => simp [preOK, hr] at h
theorem pre_sound {Q' : Exit → Act → World → Prop} (hs : Region.noSelect ops = true) (hQ : ∀ c a d v w, Q (.panic c) (Act.put a (some d) v) w → Q (.panic c) a w) (hQQ : ∀ c a w, Q' (.panic c) a w → Q (.panic c) a w) (hLL : LetsOut Q' → LetsOut Q) (n : Nat) :
    ∀ (r : List (Nat × Bool)) (listed : Array Bool) (a : Act) (w : World), preOK ops r listed = true → (r = [] ∨ S w) → seqH P ops Q' S r a w → (∀ a' w', Q' .normal a' w' → wpAnyL P ops Q S n (behind r listed) a' w') → wpAnyL P ops Q S (r.length + n) listed a w
  | [], listed, a, w, h, _, hq, hn => by
    rw [show ([] : List (Nat × Bool)).length + n = n by simp]
    exact hn a w hq
  | (i, true) :: r, listed, a, w, h, hS, hq, hn => by
    simp only [preOK, Bool.and_eq_true] at h
    obtain ⟨o, v, d, ho, hd, hy, hq⟩ := hq
    have hS := hS.resolve_left (by simp)
    have := pre_sound hs hQ hQQ hLL n r _ _ _ h.2 (.inr hS) hq hn
    rw [show ((i, true) :: r).length + n = (r.length + n) + 1 by simp; omega]
    exact takeL ho hs (fun c a w => by rw [hd]; exact hQ c a _ _ w) _ _ _ _ h.1.1 (by simpa using h.1.2) hy hS (by rw [hd]; exact this)
  | (i, false) :: r, listed, a, w, h, hS, hq, hn => by
    simp only [preOK, Bool.and_eq_true, beq_iff_eq] at h
    rw [show ((i, false) :: r).length + n = (r.length + n) + 1 by simp; omega]
    refine ⟨fun h0 => absurd (h.1.symm.trans h0) (by simp), fun j hj => ?_⟩
    have hji := hj
    rw [h.1] at hji
    obtain rfl : j = i := by simpa using hji
    change wpOp P ops Q' j (fun a' w' => (lastK ops j = true ∨ S w') ∧ seqH P ops Q' S r a' w') a w at hq
    have hq := wpOp_weak hQQ hLL hq
    refine wpOp_mono (fun a' w' ⟨h1, h2⟩ => ⟨h1, pre_sound hs hQ hQQ hLL n r _ _ _ h.2 ?_ h2 hn⟩) hq
    exact h1.imp (fun hl => pre_nil h.2 (lastK_none hl hj)) id
theorem plan_sound (hs : Region.noSelect ops = true) (hQ : ∀ c a d v w, Q (.panic c) (Act.put a (some d) v) w → Q (.panic c) a w) :
    ∀ (p : Plan) (listed : Array Bool) (a : Act) (w : World), planOK ops p listed = true → S w → seqP P ops Q S p a w → wpAnyL P ops Q S p.len listed a w
  | .leaf r, listed, a, w, h, hS, hq => seq_sound hs hQ r listed a w h (.inr hS) hq
  | .fork r i p j q, listed, a, w, h, hS, hq => by
    simp only [planOK, Bool.and_eq_true, beq_iff_eq, Bool.not_eq_true'] at h
    obtain ⟨⟨⟨⟨⟨⟨h1, h2⟩, h3⟩, h4⟩, h5⟩, h6⟩, h7⟩ := h
    have h5 := Nat.eq_of_beq_eq_true h5
    refine pre_sound (Q' := forkQ Q _) hs hQ (fun c a w h => h) (fun h => h) (p.len + 1) r listed a w h1 (.inr hS) hq (fun a' w' hf => ?_)
    obtain ⟨g1, g2, g3⟩ := hf
    refine ⟨fun h0 => absurd (h2.symm.trans h0) (by simp), fun k hk => ?_⟩
    rw [h2] at hk
    simp only [List.mem_cons, List.not_mem_nil, or_false] at hk
    rcases hk with rfl | rfl
    · exact wpOp_mono (fun b v hv => ⟨hv.1, plan_sound hs hQ p _ _ _ h6 (hv.1.resolve_left (by rw [h3]; simp)) hv.2⟩) g2
    · rw [h5]
      exact wpOp_mono (fun b v hv => ⟨hv.1, plan_sound hs hQ q _ _ _ h7 (hv.1.resolve_left (by rw [h4]; simp)) hv.2⟩) g3
/-- RunE over a plan. -/
def RunT (P : Program) (ops : Array Oper) (Q : Exit → Act → World → Prop) (S : World → Prop) : Plan → Act → List (Nat × Value) → World → Prop
  | .leaf r, a, e, w => RunE P ops Q S r a e w
  | .fork r i p j q, a, e, w => RunE P ops (forkQ Q fun a' w' => S w' ∧ wpOp P ops Q i (fun b v => (lastK ops i = true ∨ S v) ∧ seqP P ops Q S p b v) a' w' ∧ wpOp P ops Q j (fun b v => (lastK ops j = true ∨ S v) ∧ seqP P ops Q S q b v) a' w') S r a e w
theorem RunT.out {p : Plan} {a : Act} {e : List (Nat × Value)} {w : World} (h : RunT P ops Q S p a e w) (hk : keysIn a.tmps.size e) : seqP P ops Q S p (putAll a e) w := by
  cases p with
  | leaf r => exact RunE.out h hk
  | fork r i p j q => exact RunE.out h hk
/-- An operation ahead of a plan. -/
theorem cons_wp {i : Nat} {p : Plan} {a : Act} {w : World} (hl : lastK ops i = false) (h : seqP P ops Q S (p.cons i) a w) : wpOp P ops Q i (fun b v => (lastK ops i = true ∨ S v) ∧ seqP P ops Q S p b v) a w := by
  cases p with
  | leaf r => exact h
  | fork r j p k q => exact wpOp_weak (fun c a w h => h) (fun h => h) h
/-- The end of a fork's first part: both ways. -/
theorem run_fork {i j : Nat} {p q : Plan} {a : Act} {e : List (Nat × Value)} {w : World} (hS : S w) (hi : lastK ops i = false) (hj : lastK ops j = false) (h1 : RunT P ops Q S (p.cons i) a e w) (h2 : RunT P ops Q S (q.cons j) a e w) :
    RunE P ops (forkQ Q fun a' w' => S w' ∧ wpOp P ops Q i (fun b v => (lastK ops i = true ∨ S v) ∧ seqP P ops Q S p b v) a' w' ∧ wpOp P ops Q j (fun b v => (lastK ops j = true ∨ S v) ∧ seqP P ops Q S q b v) a' w') S [] a e w :=
  ⟨fun hk => ⟨hS, cons_wp hi (h1.out hk), cons_wp hj (h2.out hk)⟩⟩
theorem run_regionT {id : Nat} {ops' : Array Oper} {a : Act} {w : World} (p : Plan) (hops : ops' = ops) (hm : P.follows .mixedOrders = true) (hs : Region.noSelect ops = true) (hlen : Nat.beq p.len ops.size = true)
    (hsch : planOK ops p (Array.replicate ops.size false) = true) (hQ : ∀ c a d v w, Q (.panic c) (Act.put a (some d) v) w → Q (.panic c) a w) (hS : S w.drew)
    (h : RunT P ops Q S p a [] w.drew) : (Code.region id ops' true).wp P Q a w := by
  subst hops
  refine wp_region_any hm (wpAny_of_L (S := S) _ _ _ _ ?_)
  have hl := Nat.eq_of_beq_eq_true hlen
  show wpAnyL P ops' Q S ops'.size (Array.replicate ops'.size false) a w.drew
  generalize Array.replicate ops'.size false = L at hsch ⊢
  rw [← hl]
  exact plan_sound hs hQ p _ _ _ hsch hS (h.out (fun p hp => by cases hp))
end
/-- A new variable of type Vector, of type Item. -/
theorem new_vec (w : World) : (Instr.alloc 31 true (.tuple #[])).run Try.prog w = .ok (.pointer (some ⟨w.heap.size, 0, none⟩)) (w.alloc (.cells #[.int .i64 0, .slice none 0 0, .slice none 0 0, .slice none 0 0, .slice none 0 0, .slice none 0 0, .int .i64 0, .int .i64 0] 31)) := by
  kernel_rfl
theorem new_item (w : World) : (Instr.alloc 66 true (.tuple #[])).run Try.prog w = .ok (.pointer (some ⟨w.heap.size, 0, none⟩)) (w.alloc (.cells #[.int .i64 0, .int .i64 0, .string ⟨#[]⟩] 66)) := by
  kernel_rfl
section
variable {P : Program} {ops : Array Oper} {Q : Exit → Act → World → Prop} {S : World → Prop}
variable {r : List (Nat × Bool)} {a : Act} {e : List (Nat × Value)} {w : World} {i d : Nat} {g : Option (Nat × Bool)}
/-- A new variable, wherever it comes up. -/
theorem run_new {t : TypeId} {C : Array Value} (ho : opAt ops i = some (some d, .alloc t, g)) (hd : Nat.blt d a.tmps.size = true) (hw : wantE ops a e g = some true)
    (hn : ∀ v : World, (Instr.alloc t true (.tuple #[])).run P v = .ok (.pointer (some ⟨v.heap.size, 0, none⟩)) (v.alloc (.cells C t)))
    (h : ∀ W n, W = w.alloc (.cells C t) → n = w.heap.size → S W ∧ RunE P ops Q S r a ((d, .pointer (some ⟨n, 0, none⟩)) :: e) W) : RunE P ops Q S ((i, false) :: r) a e w := by
  obtain ⟨hS, hR⟩ := h _ _ rfl rfl
  exact run_eff (op := .alloc t) ho hd hw (fun o h1 => by unfold execOp; rw [h1]; exact run_v (hn w)) hS hR
end
section
variable {P : Program} {ops : Array Oper} {Q : Exit → Act → World → Prop} {S : World → Prop}
variable {r : List (Nat × Bool)} {a : Act} {e : List (Nat × Value)} {w : World} {i d : Nat} {g : Option (Nat × Bool)}
/-- The larger one of two ints. -/
theorem run_max2 {x y : Operand} {ats : Array TypeId} {p q z : Int} (ho : opAt ops i = some (some d, .call { callee := .builtin .max, args := [x, y].toArray, argTypes := ats }, g)) (hd : Nat.blt d a.tmps.size = true)
    (hw : wantE ops a e g = some true) (hx : lookO a e x = .int .i64 p) (hy : lookO a e y = .int .i64 q) (hz : (if q > p then q else p) = z)
    (h : RunE P ops Q S r a ((d, .int .i64 z) :: e) w) : RunE P ops Q S ((i, true) :: r) a e w :=
  run_yield ho hd hw (fun o w' h1 _ => by
    unfold execOp; rw [h1]
    have hx' : [x, y].toArray.map (lookO a e) = #[.int .i64 p, .int .i64 q] := by simp [hx, hy]
    have key : ∀ cs, (builtin .max ats o.type cs ([x, y].toArray.map (lookO a e))).run P w' = .ok (.value (.int .i64 z)) w' := fun cs => by
      rw [hx']
      show (do pure (.value (← Builtin.max_ ats o.type #[.int .i64 p, .int .i64 q])) : Sem Next).run P w' = _
      refine run_v ?_
      rw [run_max_int2, hz]
    exact key #[]) h
end
/-- A vector stored whole into a block that holds one. -/
theorem store_vec8 {w : World} {b : Nat} {z0 z1 z2 z3 z4 z5 z6 z7 c0 c1 c2 c3 c4 c5 c6 c7 : Value} (h : w.heap[b]? = some (.cells #[z0, z1, z2, z3, z4, z5, z6, z7] 31 (0, 0))) (h1 : (#[c0, c1, c2, c3, c4, c5, c6, c7] : Array Value).all (·.oneCell') = true) :
    (Instr.storeAt 31 (.pointer (some ⟨b, 0, none⟩)) (.agg #[c0, c1, c2, c3, c4, c5, c6, c7])).run Try.prog w = .ok () (w.setRow b #[c0, c1, c2, c3, c4, c5, c6, c7]) := by
  have e := run_storeVar_row (P := Try.prog) w b _ 31 #[z0, z1, z2, z3, z4, z5, z6, z7] #[c0, c1, c2, c3, c4, c5, c6, c7] h infoVec rfl h1
  simp only [Instr.storeAt, Instr.sureAddr, Sem.run_bind, Sem.run_pure, Result.andThen_ok, e]
theorem Own.row {d : Nat} {V : Vec} {y : Value} {lo hi g : Nat} {c : Array Value} {w : World} (h : Own d V y lo hi w) (hg : g < lo) : Own d V y lo hi (w.setRow g c) := by
  obtain ⟨F, q1, q2, q3⟩ := h.out
  exact ⟨F, q1.kept _ _ _ _ (fun b hb => row_old rfl (by have := (q3 b hb).1; omega)), q2, q3⟩
theorem row_size (w : World) (g : Nat) (c : Array Value) : w.heap.size ≤ (w.setRow g c).heap.size := (below_row (Below.refl 0 w) (Nat.zero_le _) c).size
/-- A block that was made in a region. -/
structure NewB (b : Nat) (t : TypeId) (C : Array Value) (w : World) : Prop where
  out : w.heap[b]? = some (.cells C t (0, 0))
theorem NewB.keep {b : Nat} {t : TypeId} {C : Array Value} {w w1 : World} (h : NewB b t C w) (hb : Below w.heap.size w w1) : NewB b t C w1 := ⟨blk_below hb h.out⟩
end Go.Proofs.Ytlnjjjoeblopeaa

/- CumulativeOf as data; rows of items beside a variable that changes. -/
namespace Go.Proofs.Ytlnjjjoeblopeaa
open Go.RowKit
set_option maxRecDepth 100000
set_option linter.unusedVariables false

theorem smyL_false {v : Vec} (h : ValidV v) (hc : Counts v) : smyL false v = itemsV v := by
  rw [(smy_yes h hc (fun _ => noI) false nonNumB).1, pickL_no]
noncomputable def cumV (v : Vec) : Vec := match bB (ValidV v ∧ Counts v) with | true => mkN 2 (runL (smyL false v)) (namesV v) | false => noV
theorem cum_val {v : Vec} (h : smyS nonNumB v = ⟨#[]⟩) : cumV v = mkN 2 (runL (smyL false v)) (namesV v) := by
  have := smy_empty (by decide) h
  unfold cumV
  rw [bB_yes this]
theorem cum_not {v : Vec} (h : ¬ smyS nonNumB v = ⟨#[]⟩) : cumV v = noV := by
  unfold cumV
  rw [bB_no]
  rintro ⟨a, b⟩
  exact h (smy_yes a b (fun _ => noI) false nonNumB).2.1
theorem runL_len (l : List It) : (runL l).length = l.length := itF_len _ _
theorem cum_plain {d : Nat} {v : Vec} (hsm : Small d v) : PlainN (cumV v) := by
  unfold cumV
  split
  · cases d with
    | zero => exact hsm.elim
    | succ d =>
      have hl := smyL_len false v
      obtain ⟨k, items, parts, names, cls, levels, code, env⟩ := v
      refine .inr ⟨_, _, _, rfl, by decide, by rw [runL_len]; exact hl, fun x hx => ?_, hsm.2.2.1, hsm.2.2.2.2.2.2.1⟩
      obtain ⟨i, _, rfl⟩ := mem_itF hx
      have := good_sumL (List.take (i + 1) (smyL false (.mk k items parts names cls levels code env)))
      exact ⟨this.1, by rw [this.2]; exact Nat.zero_le _⟩
  · exact .inl rfl
theorem ownsRow_apart {w w' : World} {B size n : Nat} {el : TypeId} {v : Value} {xs : List Value} (h : w.ownsRow B el size v n xs) (hk : ∀ b, B ≤ b → v.ownBlock = some b → w'.heap[b]? = w.heap[b]?) : w'.ownsRow B el size v n xs := by
  obtain ⟨a, h⟩ := h
  refine ⟨a, ?_⟩
  rcases h with h | ⟨g, cap, cur, e, hB, hb, r⟩
  · exact .inl h
  · exact .inr ⟨g, cap, cur, e, hB, (hk g hB (by rw [e]; rfl)).trans hb, r⟩
/-- An item appended to a row from a base on. -/
theorem wpList_appRow {w : World} {B : Nat} {ops : Array Oper} {rest : List Oper} {o : Oper} {a : Act} {Q : Exit → Act → World → Prop} (hgd : o.guard = none) (s x : Operand)
    (ho : o.op = .call { callee := .builtin .append, args := #[s, x], argTypes := #[28, 28] }) (z : It) (l : List It) (v0 : Value) (b : Nat) (hs : a.eval s = v0) (hx : a.eval x = .slice (some ⟨b, 0, none⟩) 1 1)
    (hr : w.ownsRow B 66 3 v0 l.length (itCells l)) (hB : B ≤ w.heap.size) (hb : w.heap[b]? = some (.cells #[.int .i64 z.n, .int .i64 z.d, .string z.t] 66 (0, 0))) (hn : l.length ≤ 1048576)
    (h : ∀ v' w', w'.ownsRow B 66 3 v' (l ++ [z]).length (itCells (l ++ [z])) → Below B w w' → wpList Try.prog ops Q rest (a.put o.dst v') w') : wpList Try.prog ops Q (o :: rest) a w := by
  obtain ⟨i0, hi0, hz0, hz1, hz2⟩ := info_parts infoItm3
  refine wpList_append_own w hgd s x 28 ho B 66 i0 _ 3 32 Try.underlying28 hi0 hz0 hz1 hz2 rfl (by decide) v0 l.length (itCells l) hs hr ⟨b, 0, none⟩ 1 1 (itCells [z]) hx rfl (fun j u hj => ?_) (itCells_one _) (by unfold maxLen; omega) (by omega) hB (fun v' w' h1 h2 _ => ?_)
  · have hlt : j < 3 := by have := (List.getElem?_eq_some_iff.1 hj).1; simpa [itCells] using this
    rw [addr_add, Nat.zero_add]
    refine cellOf hb ?_
    rw [← hj]
    rcases (show j = 0 ∨ j = 1 ∨ j = 2 by omega) with rfl | rfl | rfl <;> rfl
  · have e1 : l.length + 1 = (l ++ [z]).length := by simp
    have e2 : itCells l ++ itCells [z] = itCells (l ++ [z]) := (itCells_app l [z]).symm
    rw [e1, e2] at h1
    exact h v' w' h1 ((Below.refl B w).grown h2 hB (fun r hr' => (hr.lt r hr').1))
theorem blk_set3'' {w : World} {a g : Nat} {x y z : Value} (hg : a ≠ g) : (((w.setCell ⟨g, 0, none⟩ x).setCell ⟨g, 1, none⟩ y).setCell ⟨g, 2, none⟩ z).heap[a]? = w.heap[a]? := by
  rw [Below.heap_setCell _ _ _ _ hg, Below.heap_setCell _ _ _ _ hg, Below.heap_setCell _ _ _ _ hg]
/-- What the loop of runningSums keeps: the sums so far, the last one in a variable. -/
structure RunR (w wr : World) (B g : Nat) (l : List It) (s : It) (v : Value) : Prop where
  row : wr.ownsRow B 66 3 v l.length (itCells l)
  below : Below w.heap.size w wr
  num : wr.heap[g]? = some (.cells #[.int .i64 s.n, .int .i64 s.d, .string s.t] 66 (0, 0))
  big : B ≤ wr.heap.size
theorem RunR.keep {w wr w1 : World} {B g : Nat} {l : List It} {s : It} {v : Value} (h : RunR w wr B g l s v) (hb : Below wr.heap.size wr w1) : RunR w w1 B g l s v :=
  ⟨ownsRow_below h.row hb, below_then h.below hb, blk_below hb h.num, Nat.le_trans h.big hb.size⟩
theorem RunR.set {w wr : World} {B g : Nat} {l : List It} {s z : It} {v : Value} (h : RunR w wr B g l s v) (hg : g < B) (hw : w.heap.size ≤ g) : RunR w (((wr.setCell ⟨g, 0, none⟩ (.int .i64 z.n)).setCell ⟨g, 1, none⟩ (.int .i64 z.d)).setCell ⟨g, 2, none⟩ (.string z.t)) B g l z v :=
  ⟨ownsRow_apart h.row (fun b hb _ => blk_set3'' (by omega)), below_three h.below hw _ _ _, cells_set3 h.num, by simpa using h.big⟩
/-- What the reference's loop keeps: the vector and its names, the sums so far, the last one in a variable. -/
structure CumR (w wr : World) (b g : Nat) (l : List It) (s : It) (sa : Option Addr) (sn sc : Nat) (names : List ByteArray) (na : Option Addr) (nc : Nat) (F : List Nat) : Prop where
  vec : wr.heap[b]? = some (.cells #[.int .i64 2, .slice sa sn sc, .slice none 0 0, .slice na names.length nc, .slice none 0 0, .slice none 0 0, .int .i64 0, .int .i64 0] 31 (0, 0))
  num : wr.heap[g]? = some (.cells #[.int .i64 s.n, .int .i64 s.d, .string s.t] 66 (0, 0))
  row : wr.ownsRow (g + 1) 66 3 (.slice sa sn sc) l.length (itCells l)
  nms : OwnTxs wr na names F
  cap : names.length ≤ nc
  nd : F.Nodup
  rng : ∀ x ∈ F, w.heap.size ≤ x ∧ x < b
  below : Below w.heap.size w wr
  o1 : w.heap.size ≤ b
  o2 : b < g
theorem CumR.big {w wr : World} {b g : Nat} {l : List It} {s : It} {sa : Option Addr} {sn sc : Nat} {names : List ByteArray} {na : Option Addr} {nc : Nat} {F : List Nat} (h : CumR w wr b g l s sa sn sc names na nc F) : g < wr.heap.size := (Array.getElem?_eq_some_iff.1 h.num).1
theorem CumR.keep {w wr w1 : World} {b g : Nat} {l : List It} {s : It} {sa : Option Addr} {sn sc : Nat} {names : List ByteArray} {na : Option Addr} {nc : Nat} {F : List Nat} (h : CumR w wr b g l s sa sn sc names na nc F) (hb : Below wr.heap.size wr w1) : CumR w w1 b g l s sa sn sc names na nc F :=
  ⟨blk_below hb h.vec, blk_below hb h.num, ownsRow_below h.row hb, h.nms.kept (fun x hx => hb.block x (by have := h.rng x hx; have := h.big; have := h.o2; omega)), h.cap, h.nd, h.rng, below_then h.below hb, h.o1, h.o2⟩
theorem CumR.put {w wr : World} {b g : Nat} {l : List It} {s z : It} {sa : Option Addr} {sn sc : Nat} {names : List ByteArray} {na : Option Addr} {nc : Nat} {F : List Nat} (h : CumR w wr b g l s sa sn sc names na nc F) : CumR w (wr.setRow g #[.int .i64 z.n, .int .i64 z.d, .string z.t]) b g l z sa sn sc names na nc F :=
  ⟨row_old h.vec (by have := h.o2; omega), row_set h.num, ownsRow_apart h.row (fun x hx _ => row_old rfl (by omega)), h.nms.kept (fun x hx => row_old rfl (by have := h.rng x hx; have := h.o2; omega)), h.cap, h.nd, h.rng, below_row h.below (by have := h.o1; have := h.o2; omega) _, h.o1, h.o2⟩
theorem CumR.next {w wr W : World} {b g : Nat} {l : List It} {s z : It} {sa sa' : Option Addr} {sn sc sn' sc' : Nat} {names : List ByteArray} {na : Option Addr} {nc : Nat} {F : List Nat} (h : CumR w wr b g l s sa sn sc names na nc F)
    (hK : W.heap[b]? = some (.cells (#[.int .i64 2, .slice sa sn sc, .slice none 0 0, .slice na names.length nc, .slice none 0 0, .slice none 0 0, .int .i64 0, .int .i64 0].setIfInBounds 1 (.slice sa' sn' sc')) 31 (0, 0)))
    (hO : W.ownsRow (g + 1) 66 3 (.slice sa' sn' sc') (l ++ [z]).length (itCells (l ++ [z]))) (hB : Below w.heap.size w W)
    (hN : W.heap[g]? = some (.cells #[.int .i64 s.n, .int .i64 s.d, .string s.t] 66 (0, 0))) (hF : ∀ x ∈ F, W.heap[x]? = wr.heap[x]?) : CumR w W b g (l ++ [z]) s sa' sn' sc' names na nc F :=
  ⟨hK, hN, hO, h.nms.kept hF, h.cap, h.nd, h.rng, hB, h.o1, h.o2⟩
theorem CumR.own {w wr : World} {b g : Nat} {l : List It} {s : It} {sa : Option Addr} {sn sc : Nat} {names : List ByteArray} {na : Option Addr} {nc : Nat} {F : List Nat} (h : CumR w wr b g l s sa sn sc names na nc F) :
    Own 1 (mkN 2 l names) (.agg #[.int .i64 2, .slice sa sn sc, .slice none 0 0, .slice na names.length nc, .slice none 0 0, .slice none 0 0, .int .i64 0, .int .i64 0]) w.heap.size wr.heap.size wr := by
  obtain ⟨a, c, Fi, e, ho, hn, hr, hc⟩ := own_of_its h.row
  obtain ⟨rfl, rfl, rfl⟩ : sa = a ∧ sn = l.length ∧ sc = c := by simpa using e
  refine ⟨Fi ++ F, ?_, ?_, ?_⟩
  · show OwnVec wr 1 (.mk 2 l [] names [] [] 0 0) _ _
    unfold OwnVec
    exact ⟨sa, sc, none, 0, na, nc, none, 0, none, 0, Fi, [], F, [], [], rfl, by simp, ⟨hc, Nat.le_refl _, h.cap, Nat.le_refl _, Nat.le_refl _⟩, ho, h.nms, .inl ⟨rfl, rfl⟩, .inl ⟨rfl, rfl⟩, .inl ⟨rfl, rfl⟩⟩
  · rw [List.nodup_append]
    exact ⟨hn, h.nd, fun x hx y hy e => by have := hr x hx; have := h.rng y hy; have := h.o2; omega⟩
  · intro x hx
    have h1 := h.o1; have h2 := h.o2; have h3 := h.big
    rcases List.mem_append.1 hx with hx | hx
    · have := hr x hx; omega
    · have := h.rng x hx; omega
section
variable {ops : Array Oper} {Q : Exit → Act → World → Prop} {S : World → Prop}
variable {r : List (Nat × Bool)} {a : Act} {e : List (Nat × Value)} {w : World} {i d : Nat} {g : Option (Nat × Bool)}
theorem run_bldK {k : Int} {x y : Operand} {sa sb : Option Addr} {n m n' m' : Nat} (ho : opAt ops i = some (some d, .build 31 #[(0, .const (.int .i64 k)), (1, x), (3, y)], g)) (hd : Nat.blt d a.tmps.size = true) (hw : wantE ops a e g = some true)
    (hx : lookO a e x = .slice sa n m) (hy : lookO a e y = .slice sb n' m') (hS : S w)
    (h : RunE Try.prog ops Q S r a ((d, .agg #[.int .i64 k, .slice sa n m, .slice none 0 0, .slice sb n' m', .slice none 0 0, .slice none 0 0, .int .i64 0, .int .i64 0]) :: e) w) : RunE Try.prog ops Q S ((i, false) :: r) a e w := by
  have hc : lookO a e (.const (.int .i64 k)) = .int .i64 k := rfl
  refine run_eff ho hd hw (fun o h1 => ?_) hS h
  unfold execOp
  simp only [h1, List.map_toArray, List.map_cons, List.map_nil, hx, hy, hc]
  exact run_v build_v3
end
end Go.Proofs.Ytlnjjjoeblopeaa

/- The program's remainders. -/
namespace Go.Proofs.Ytlnjjjoeblopeaa
set_option maxRecDepth 100000
open Go.RowKit
set_option linter.unusedVariables false

set_option maxHeartbeats 8000000 in
theorem implRem (x y : It) (w : World) (hx : x.t.size ≤ 9223372036854775807) (hy : y.t.size ≤ 9223372036854775807) :
    Calls Try.prog 130 #[.agg #[.int .i64 x.n, .int .i64 x.d, .string x.t], .agg #[.int .i64 y.n, .int .i64 y.d, .string y.t]] w fun e w' => e = .returned (.agg #[.int .i64 (remI x y).n, .int .i64 (remI x y).d, .string (remI x y).t]) ∧ Below w.heap.size w w' := by
  cases h : both x y
  · have X := Lib.hid (show remI x y = noI by unfold remI; simp [h])
    have N := Lib.hid h
    clear h
    go_enter Try.func130, Try.ntmps130
    go_wp2_with fail
    refine (areNo x y _ hx hy N.out).mono ?_
    rintro e w1 ⟨rfl, hb⟩
    obtain ⟨hc, hf⟩ := bcell hb
    have B1 := Lib.hid (below_then (below3 w _ _ _) hb)
    have G := Lib.hid (blk_below (g := w.heap.size + 2) hb (blk_new _ _ (by simp)))
    clear hb
    go_wp2
    rw [X.out]
    exact item_ret rfl rfl rfl G.out ⟨rfl, below_three B1.out (by omega) _ _ _⟩
  · by_cases h0 : y.n = 0
    · have X := Lib.hid (show remI x y = noI by unfold remI; rw [if_neg (by simp [h0])])
      have N := Lib.hid h
      have h0' : (y.n == 0) = true := by simp [h0]
      clear h h0
      go_enter Try.func130, Try.ntmps130
      go_wp2_with fail
      refine (areYes x y _ hx hy N.out).mono ?_
      rintro e w1 ⟨rfl, hb⟩
      obtain ⟨hc, hf⟩ := bcell hb
      have B1 := Lib.hid (below_then (below3 w _ _ _) hb)
      have G := Lib.hid (blk_below (g := w.heap.size + 2) hb (blk_new _ _ (by simp)))
      have hz : w.heap.size + 2 < w1.heap.size := by have := hb.size; simp at this; omega
      clear hb
      go_wp2
      rw [X.out]
      exact item_ret rfl rfl rfl G.out ⟨rfl, below_three B1.out (by omega) _ _ _⟩
    · have P := parts_in (both_iff.1 h).1 (both_iff.1 h).2
      have R := Lib.hid (implRatio x y)
      have PP := Lib.hid (show (-999999998000000001 ≤ x.n * y.d ∧ x.n * y.d ≤ 999999998000000001) ∧ (-999999998000000001 ≤ x.d * y.n ∧ x.d * y.n ≤ 999999998000000001) by omega)
      have D := Lib.hid (show x.d * y.n ≠ 0 from Int.mul_ne_zero (by have := isN_iff.1 (both_iff.1 h).1; omega) h0)
      have N := Lib.hid h
      have h0' : (y.n == 0) = false := by simp [h0]
      have X := Lib.hid (rem_mk h h0)
      have E := Lib.hid (fun W => implExcess (x.n * y.d) (x.d * y.n) W (by omega) (by omega) (by omega) (by omega) D.out)
      have c0 : -999999998000000001 ≤ x.d * y.d := by omega
      have c1 : x.d * y.d ≤ 999999998000000001 := by omega
      have f := fmod_in (n := x.n * y.d) (d := x.d * y.n) (A := 999999998000000001) (by omega) (by omega) D.out
      obtain ⟨r, hr⟩ : ∃ r, (x.n * y.d).fmod (x.d * y.n) = r := ⟨_, rfl⟩
      rw [hr] at X E f
      have ew : IntKind.wrap .i64 (x.d * y.d) = x.d * y.d := by rw [IntWalk.i64_left]; exact IntWalk.wrap64_in _ (by omega)
      have FN : Hid (∀ W, Calls Try.prog 151 #[.agg #[.int .i64 r, .int .i64 (IntKind.wrap .i64 (x.d * y.d))]] W fun e w' => e = .returned (.agg #[.int .i64 (mkI r (x.d * y.d)).n, .int .i64 (mkI r (x.d * y.d)).d, .string ⟨#[]⟩]) ∧ Below W.heap.size W w') := by
        refine Lib.hid ?_
        intro W
        rw [ew]
        exact fracNumber r (x.d * y.d) W ⟨by omega, by omega⟩ ⟨by omega, by omega⟩
      clear h P h0 hr f ew c0 c1
      go_enter Try.func130, Try.ntmps130
      go_wp2_with fail
      refine (areYes x y _ hx hy N.out).mono ?_
      rintro e w1 ⟨rfl, hb⟩
      obtain ⟨hc, hf⟩ := bcell hb
      have B1 := Lib.hid (below_then (below3 w _ _ _) hb)
      have GX := Lib.hid (blk_below (g := w.heap.size) hb (blk_old (blk_old (blk_new _ _ rfl))))
      have GY := Lib.hid (blk_below (g := w.heap.size + 1) hb (blk_old (blk_new _ _ (by simp))))
      have GR := Lib.hid (blk_below (g := w.heap.size + 2) hb (blk_new _ _ (by simp)))
      have hz : w.heap.size + 2 < w1.heap.size := by have := hb.size; simp at this; omega
      have BS := Lib.hid (Below.refl w1.heap.size w1)
      clear hb
      go_wp2_with fail
      clear hc hf
      go_region_held3 (fun w' => w'.cell? ⟨w.heap.size, 0, none⟩ = some (.int .i64 x.n) ∧ w'.cell? ⟨w.heap.size, 1, none⟩ = some (.int .i64 x.d) ∧ w'.cell? ⟨w.heap.size, 2, none⟩ = some (.string x.t) ∧ w'.cell? ⟨w.heap.size + 1, 0, none⟩ = some (.int .i64 y.n) ∧ w'.cell? ⟨w.heap.size + 1, 1, none⟩ = some (.int .i64 y.d) ∧ w'.cell? ⟨w.heap.size + 1, 2, none⟩ = some (.string y.t)) (first | with_reducible exact six (blk_drew GX.out) (blk_drew GY.out) | with_reducible exact six GX.out GY.out | ((with_reducible refine six (blk_set3 GX.out ?_) (blk_set3 GY.out ?_)) <;> omega)) (first
        | (go_at_call 153; refine (R.out _ PP.out).mono ?_; rintro e w2 ⟨rfl, hb⟩; have GX := Lib.hid (blk_step hb (by first | with_reducible exact .same | with_reducible exact .drew) GX.out); have GY := Lib.hid (blk_step hb (by first | with_reducible exact .same | with_reducible exact .drew) GY.out); have GR := Lib.hid (blk_step hb (by first | with_reducible exact .same | with_reducible exact .drew) GR.out); have BS := Lib.hid (below_step BS.out (by first | with_reducible exact .same | with_reducible exact .drew) hb BS.out.size); have hs := BS.out.size; clear hb)
        | (go_at_call 154; refine (E.out _).mono ?_; rintro e w3 ⟨rfl, hb⟩; have GX := Lib.hid (blk_step hb (by first | with_reducible exact .same | with_reducible exact .drew) GX.out); have GY := Lib.hid (blk_step hb (by first | with_reducible exact .same | with_reducible exact .drew) GY.out); have GR := Lib.hid (blk_step hb (by first | with_reducible exact .same | with_reducible exact .drew) GR.out); have BS := Lib.hid (below_step BS.out (by first | with_reducible exact .same | with_reducible exact .drew) hb BS.out.size); have hs := BS.out.size; clear hb)
        | (go_at_call 151; refine (FN.out _).mono ?_; rintro e w4 ⟨rfl, hb⟩; have GX := Lib.hid (blk_step hb (by first | with_reducible exact .same | with_reducible exact .drew) GX.out); have GY := Lib.hid (blk_step hb (by first | with_reducible exact .same | with_reducible exact .drew) GY.out); have GR := Lib.hid (blk_step hb (by first | with_reducible exact .same | with_reducible exact .drew) GR.out); have BS := Lib.hid (below_step BS.out (by first | with_reducible exact .same | with_reducible exact .drew) hb BS.out.size); have hs := BS.out.size; clear hb; (have G6 := three GR.out; obtain ⟨⟨c0, c1, c2⟩, f0, f1, f2⟩ := G6)))
      all_goals
        go_wp2
        rw [← X.out, mkI_t]
        exact item_ret rfl rfl rfl GR.out ⟨rfl, below_three (below_then B1.out BS.out) (by omega) _ _ _⟩
end Go.Proofs.Ytlnjjjoeblopeaa

/- ArithmeticOf of the program. -/
namespace Go.Proofs.Ytlnjjjoeblopeaa
open Go.RowKit
set_option maxRecDepth 100000
set_option linter.unusedVariables false

set_option maxHeartbeats 16000000 in
theorem implArithmeticOf (d0 d1 : Nat) (a b : Vec) (op : ByteArray) (va vb : Value) (lo hi : Nat) (w : World) (h0 : VecAt lo hi w d0 a va) (h1 : VecAt lo hi w d1 b vb) (hhi : hi ≤ w.heap.size) (hsm0 : Small d0 a) (hsm1 : Small d1 b) :
    Calls Try.prog 24 #[.string op, va, vb] w (ResVS 1 (ariV (idxA op) a b) (ariS (idxA op) a b) w) := by
  have PB := Lib.hid (fun (w1 : World) (hb : Below w.heap.size w w1) (known : Bool) => implPrb d0 d1 a b va vb known nonNumB lo hi w1 (h0.below hb hhi) (h1.below hb hhi) (Nat.le_trans hhi hb.size) hsm0 hsm1)
  obtain ⟨VA, hVA⟩ : ∃ V, a = V := ⟨_, rfl⟩
  obtain ⟨VB, hVB⟩ : ∃ V, b = V := ⟨_, rfl⟩
  rw [hVA, hVB] at PB
  rw [hVA, hVB]
  obtain ⟨k0, items0, parts0, names0, cls0, lev0, code0, env0⟩ := a
  obtain ⟨d0', ai0, ci0, ap0, cp0, an0, cn0, ac0, cc0, al0, cl0, ed0, rfl, hI0, hN0, hC0, hL0, hP0⟩ := vecAt_open h0
  have ln0 : names0.length ≤ 1048576 := by subst ed0; exact hsm0.2.2.1
  have li0 : items0.length ≤ 1048576 := by subst ed0; exact hsm0.1
  have lp0 : parts0.length ≤ 1048576 := by subst ed0; exact hsm0.2.1
  obtain ⟨k1, items1, parts1, names1, cls1, lev1, code1, env1⟩ := b
  obtain ⟨d1', ai1, ci1, ap1, cp1, an1, cn1, ac1, cc1, al1, cl1, ed1, rfl, hI1, hN1, hC1, hL1, hP1⟩ := vecAt_open h1
  have ln1 : names1.length ≤ 1048576 := by subst ed1; exact hsm1.2.2.1
  have li1 : items1.length ≤ 1048576 := by subst ed1; exact hsm1.1
  have lp1 : parts1.length ≤ 1048576 := by subst ed1; exact hsm1.2.1
  go_enter Try.func24, Try.ntmps24
  go_wp2_with fail
  obtain ⟨w1, hw1⟩ : ∃ W, ((w.alloc (.cells #[.int .i64 k0, .slice ai0 items0.length ci0, .slice ap0 parts0.length cp0, .slice an0 names0.length cn0, .slice ac0 cls0.length cc0, .slice al0 lev0.length cl0, .int .i64 code0, .int .i64 env0] 31)).alloc (.cells #[.int .i64 k1, .slice ai1 items1.length ci1, .slice ap1 parts1.length cp1, .slice an1 names1.length cn1, .slice ac1 cls1.length cc1, .slice al1 lev1.length cl1, .int .i64 code1, .int .i64 env1] 31)).alloc (.cells #[.int .i64 0, .slice none 0 0, .slice none 0 0, .slice none 0 0, .slice none 0 0, .slice none 0 0, .int .i64 0, .int .i64 0] 31) = W := ⟨_, rfl⟩
  have hsz1 : (w.alloc (.cells #[.int .i64 k0, .slice ai0 items0.length ci0, .slice ap0 parts0.length cp0, .slice an0 names0.length cn0, .slice ac0 cls0.length cc0, .slice al0 lev0.length cl0, .int .i64 code0, .int .i64 env0] 31)).heap.size = w.heap.size + 1 := by simp
  have hsz2 : ((w.alloc (.cells #[.int .i64 k0, .slice ai0 items0.length ci0, .slice ap0 parts0.length cp0, .slice an0 names0.length cn0, .slice ac0 cls0.length cc0, .slice al0 lev0.length cl0, .int .i64 code0, .int .i64 env0] 31)).alloc (.cells #[.int .i64 k1, .slice ai1 items1.length ci1, .slice ap1 parts1.length cp1, .slice an1 names1.length cn1, .slice ac1 cls1.length cc1, .slice al1 lev1.length cl1, .int .i64 code1, .int .i64 env1] 31)).heap.size = w.heap.size + 1 + 1 := by simp
  have B1 := Lib.hid (show Below w.heap.size w w1 from hw1 ▸ (below2 w _ _).alloc (by simp; omega) _)
  have KA := Lib.hid (show w1.heap[w.heap.size]? = some (.cells #[.int .i64 k0, .slice ai0 items0.length ci0, .slice ap0 parts0.length cp0, .slice an0 names0.length cn0, .slice ac0 cls0.length cc0, .slice al0 lev0.length cl0, .int .i64 code0, .int .i64 env0] 31 (0, 0)) from hw1 ▸ blk_old (blk_old (blk_new w _ rfl)))
  have KB := Lib.hid (show w1.heap[w.heap.size + 1]? = some (.cells #[.int .i64 k1, .slice ai1 items1.length ci1, .slice ap1 parts1.length cp1, .slice an1 names1.length cn1, .slice ac1 cls1.length cc1, .slice al1 lev1.length cl1, .int .i64 code1, .int .i64 env1] 31 (0, 0)) from hw1 ▸ blk_old (hsz1 ▸ blk_new (w.alloc (.cells #[.int .i64 k0, .slice ai0 items0.length ci0, .slice ap0 parts0.length cp0, .slice an0 names0.length cn0, .slice ac0 cls0.length cc0, .slice al0 lev0.length cl0, .int .i64 code0, .int .i64 env0] 31)) (.cells #[.int .i64 k1, .slice ai1 items1.length ci1, .slice ap1 parts1.length cp1, .slice an1 names1.length cn1, .slice ac1 cls1.length cc1, .slice al1 lev1.length cl1, .int .i64 code1, .int .i64 env1] 31) rfl))
  have KR := Lib.hid (show w1.heap[w.heap.size + 1 + 1]? = some (.cells #[.int .i64 0, .slice none 0 0, .slice none 0 0, .slice none 0 0, .slice none 0 0, .slice none 0 0, .int .i64 0, .int .i64 0] 31 (0, 0)) from hw1 ▸ hsz2 ▸ blk_new ((w.alloc (.cells #[.int .i64 k0, .slice ai0 items0.length ci0, .slice ap0 parts0.length cp0, .slice an0 names0.length cn0, .slice ac0 cls0.length cc0, .slice al0 lev0.length cl0, .int .i64 code0, .int .i64 env0] 31)).alloc (.cells #[.int .i64 k1, .slice ai1 items1.length ci1, .slice ap1 parts1.length cp1, .slice an1 names1.length cn1, .slice ac1 cls1.length cc1, .slice al1 lev1.length cl1, .int .i64 code1, .int .i64 env1] 31)) (.cells #[.int .i64 0, .slice none 0 0, .slice none 0 0, .slice none 0 0, .slice none 0 0, .slice none 0 0, .int .i64 0, .int .i64 0] 31) rfl)
  rw [hw1]
  clear hw1 hsz1 hsz2
  with_reducible refine (implAriOps w1).mono ?_
  rintro e w2 ⟨rfl, hm, b'⟩
  have B2 := Lib.hid (below_then B1.out b')
  have KA := Lib.hid (blk_below b' KA.out)
  have KB := Lib.hid (blk_below b' KB.out)
  have KR := Lib.hid (blk_below b' KR.out)
  obtain ⟨gm, hgm⟩ : ∃ g, w1.heap.size = g := ⟨_, rfl⟩
  rw [hgm] at hm ⊢
  have MP := Lib.hid hm
  clear b' hgm hm
  obtain ⟨ka0, ka1, ka2, ka3, ka4, ka5, ka6, ka7⟩ := vec8 KA.out
  obtain ⟨kb0, kb1, kb2, kb3, kb4, kb5, kb6, kb7⟩ := vec8 KB.out
  by_cases h_0 : op = opA 0
  · have EI := Lib.hid (idx_0  h_0)
    obtain rfl : op = ⟨#[43]⟩ := h_0
    clear hsm0 hsm1
    have lk := lookA_0 MP.out
    have XS := Lib.hid (show ariS (some 0) VA VB = prbB true VA VB nonNumB from ariS_prb (some 0) VA VB)
    go_wp2_with fail
    refine (PB.out w2 B2.out true).mono ?_
    rintro e w4 ⟨rfl, b⟩
    have B4 := Lib.hid (below_then B2.out b)
    have KA := Lib.hid (blk_below b KA.out)
    have KB := Lib.hid (blk_below b KB.out)
    have KR := Lib.hid (blk_below b KR.out)
    clear b ka0 ka1 ka2 ka3 ka4 ka5 ka6 ka7 kb0 kb1 kb2 kb3 kb4 kb5 kb6 kb7 lk
    by_cases hp : prbB true VA VB nonNumB = ⟨#[]⟩
    · have OK := Lib.hid (prb_ok (u := nonNumB) (by decide) hp)
      rw [hp]
      rw [hp] at XS
      obtain ⟨hv, hcc, hnn⟩ := OK.out
      have XV := Lib.hid (ari_yes (i := 0) hv hcc hnn)
      have EA := Lib.hid (show itL VA = items0.length by rw [← hVA]; rfl)
      have EB := Lib.hid (show itL VB = items1.length by rw [← hVB]; rfl)
      have ma : items0.length ≤ 40 := by rw [← EA.out]; exact itL_le hv.1 hcc.1
      have mb : items1.length ≤ 40 := by rw [← EB.out]; exact itL_le hv.2 hcc.2
      have XA : ∀ i, i < items0.length → NumIt (items0.getD i noI) := fun i hi => num_at (by rw [hVA]; exact hv.1) (by rw [hVA]; exact hcc.1) hi
      have XB : ∀ i, i < items1.length → NumIt (items1.getD i noI) := fun i hi => num_at (by rw [hVB]; exact hv.2) (by rw [hVB]; exact hcc.2) hi
      have FA : FlatOk k0 items0 parts0.length names0 cls0 lev0 code0 env0 := by have h := hv.1; rw [← hVA] at h; exact h.1.flat
      have FB : FlatOk k1 items1 parts1.length names1 cls1 lev1 code1 env1 := by have h := hv.2; rw [← hVB] at h; exact h.1.flat
      have CRI := Lib.hid (fun (W : World) (hH : HeldC w W ([(w.heap.size, 31, #[.int .i64 k0, .slice ai0 items0.length ci0, .slice ap0 parts0.length cp0, .slice an0 names0.length cn0, .slice ac0 cls0.length cc0, .slice al0 lev0.length cl0, .int .i64 code0, .int .i64 env0]), ((w.heap.size + 1), 31, #[.int .i64 k1, .slice ai1 items1.length ci1, .slice ap1 parts1.length cp1, .slice an1 names1.length cn1, .slice ac1 cls1.length cc1, .slice al1 lev1.length cl1, .int .i64 code1, .int .i64 env1])])) => implRecIts 125 #[] addI items0 items1 ai0 ai1 ci0 ci1 lo hi items0.length items1.length W (hI0.below hH.1 hhi) (hI1.below hH.1 hhi) (Nat.le_trans hhi hH.1.size) rfl rfl ma mb (by kernel_rfl)
        (fun i j W' hi' hj' hb' => implAdd (items0.getD i noI) (items1.getD j noI) W' (XA i hi').t0 (XB j hj').t0))
      have CRN := Lib.hid (fun (W : World) (hH : HeldC w W ([(w.heap.size, 31, #[.int .i64 k0, .slice ai0 items0.length ci0, .slice ap0 parts0.length cp0, .slice an0 names0.length cn0, .slice ac0 cls0.length cc0, .slice al0 lev0.length cl0, .int .i64 code0, .int .i64 env0]), ((w.heap.size + 1), 31, #[.int .i64 k1, .slice ai1 items1.length ci1, .slice ap1 parts1.length cp1, .slice an1 names1.length cn1, .slice ac1 cls1.length cc1, .slice al1 lev1.length cl1, .int .i64 code1, .int .i64 env1])])) => implRecNames k0 names0 ai0 ap0 an0 ac0 al0 items0.length ci0 parts0.length cp0 cn0 cls0.length cc0 lev0.length cl0 code0 env0 k1 names1 ai1 ap1 an1 ac1 al1 items1.length ci1 parts1.length cp1 cn1 cls1.length cc1 lev1.length cl1 code1 env1 lo hi W (hN0.below hH.1 hhi) (hN1.below hH.1 hhi) (Nat.le_trans hhi hH.1.size) ln0 ln1 li0 li1)
      go_upto_region 5 with (fail)
      have KR4 := KR
      have H := Lib.hid (show HeldC w w4 ([(w.heap.size, 31, #[.int .i64 k0, .slice ai0 items0.length ci0, .slice ap0 parts0.length cp0, .slice an0 names0.length cn0, .slice ac0 cls0.length cc0, .slice al0 lev0.length cl0, .int .i64 code0, .int .i64 env0]), ((w.heap.size + 1), 31, #[.int .i64 k1, .slice ai1 items1.length ci1, .slice ap1 parts1.length cp1, .slice an1 names1.length cn1, .slice ac1 cls1.length cc1, .slice al1 lev1.length cl1, .int .i64 code1, .int .i64 env1])]) from heldC_cons (heldC_cons ⟨B4.out, (fun _ h => by cases h)⟩ KB.out) KA.out)
      refine run_region (ops := (opsOf Try.f24 5)) (S := fun w' => HeldC w w' ([(w.heap.size, 31, #[.int .i64 k0, .slice ai0 items0.length ci0, .slice ap0 parts0.length cp0, .slice an0 names0.length cn0, .slice ac0 cls0.length cc0, .slice al0 lev0.length cl0, .int .i64 code0, .int .i64 env0]), ((w.heap.size + 1), 31, #[.int .i64 k1, .slice ai1 items1.length ci1, .slice ap1 parts1.length cp1, .slice an1 names1.length cn1, .slice ac1 cls1.length cc1, .slice al1 lev1.length cl1, .int .i64 code1, .int .i64 env1])])) [(0, true), (1, true), (2, true), (3, true), (4, true), (6, true), (7, true), (5, false), (8, false), (9, false), (10, false), (11, true)] (by kernel_rfl) (by kernel_rfl) (by kernel_rfl) (by kernel_rfl) (by kernel_rfl) (fun _ _ _ _ _ h => h) (heldC_drew H.out) ?_
      have H := Lib.hid (heldC_drew H.out)
      have KR := Lib.hid (blk_below (below_drew' (Below.refl _ _)) KR.out)
      refine runC_partV (b := w.heap.size) (by kernel_rfl) (show opAt (opsOf Try.f24 5) 0 = some (some 25, .fieldAddr 31 (.tmp 4) 1, none) from by kernel_rfl) (by kernel_rfl) (by kernel_rfl) (by kernel_rfl) ?_
      refine runC_cell (b := w.heap.size) (j := 1) (v := .slice ai0 items0.length ci0) load_its (show opAt (opsOf Try.f24 5) 1 = some (some 26, .load 28 (.tmp 25), none) from by kernel_rfl) (by kernel_rfl) (by kernel_rfl) (by kernel_rfl) (List.Mem.head _) rfl ?_
      refine runC_partV (b := (w.heap.size + 1)) (by kernel_rfl) (show opAt (opsOf Try.f24 5) 2 = some (some 27, .fieldAddr 31 (.tmp 5) 1, none) from by kernel_rfl) (by kernel_rfl) (by kernel_rfl) (by kernel_rfl) ?_
      refine runC_cell (b := (w.heap.size + 1)) (j := 1) (v := .slice ai1 items1.length ci1) load_its (show opAt (opsOf Try.f24 5) 3 = some (some 28, .load 28 (.tmp 27), none) from by kernel_rfl) (by kernel_rfl) (by kernel_rfl) (by kernel_rfl) (List.Mem.tail _ (List.Mem.head _)) rfl ?_
      refine run_mov (v := .func (.func 125) #[] #[]) (show opAt (opsOf Try.f24 5) 4 = some (some 29, .move (.tmp 8), none) from by kernel_rfl) (by kernel_rfl) (by kernel_rfl) (by kernel_rfl) ?_
      refine runC_vec (b := w.heap.size) (show opAt (opsOf Try.f24 5) 6 = some (some 31, .load 31 (.tmp 4), none) from by kernel_rfl) (by kernel_rfl) (by kernel_rfl) (by kernel_rfl) (List.Mem.head _) ?_
      refine runC_vec (b := (w.heap.size + 1)) (show opAt (opsOf Try.f24 5) 7 = some (some 32, .load 31 (.tmp 5), none) from by kernel_rfl) (by kernel_rfl) (by kernel_rfl) (by kernel_rfl) (List.Mem.tail _ (List.Mem.head _)) ?_
      refine run_call (args := [.slice ai0 items0.length ci0, .slice ai1 items1.length ci1, .func (.func 125) #[] #[]]) (show opAt (opsOf Try.f24 5) 5 = some (some 30, .call { callee := .value (.func 61), args := [(.tmp 26), (.tmp 28), (.tmp 29)].toArray, argTypes := [28, 28, 70].toArray }, none) from by kernel_rfl) (by kernel_rfl) (by kernel_rfl) (by kernel_rfl) (by kernel_rfl) ?_
      refine (CRI.out _ H.out).mono ?_
      rintro en rw1 ⟨vi, rfl, hit⟩
      obtain ⟨si, ni, ci, rfl⟩ := hit.form
      have OI := Lib.hid (own_of_its hit.row)
      have IR0 := Lib.hid hit.below.size
      have KR := Lib.hid (blk_below hit.below KR.out)
      refine ⟨_, rfl, heldC_call H.out hit.below, ?_⟩
      have H := Lib.hid (heldC_call H.out hit.below)
      clear hit
      refine run_call (args := [.agg #[.int .i64 k0, .slice ai0 items0.length ci0, .slice ap0 parts0.length cp0, .slice an0 names0.length cn0, .slice ac0 cls0.length cc0, .slice al0 lev0.length cl0, .int .i64 code0, .int .i64 env0], .agg #[.int .i64 k1, .slice ai1 items1.length ci1, .slice ap1 parts1.length cp1, .slice an1 names1.length cn1, .slice ac1 cls1.length cc1, .slice al1 lev1.length cl1, .int .i64 code1, .int .i64 env1]]) (show opAt (opsOf Try.f24 5) 8 = some (some 33, .call { callee := .value (.func 62), args := [(.tmp 31), (.tmp 32)].toArray, argTypes := [31, 31].toArray }, none) from by kernel_rfl) (by kernel_rfl) (by kernel_rfl) (by kernel_rfl) (by kernel_rfl) ?_
      refine (CRN.out _ H.out).mono ?_
      rintro en rw2 ⟨⟨vn, rfl, hcp⟩, hb⟩
      have CP := Lib.hid hcp
      obtain ⟨sn, nn, cn, rfl⟩ : ∃ s n c, vn = .slice s n c := by obtain ⟨s, c, F, e, _⟩ := hcp; exact ⟨s, _, c, e⟩
      refine ⟨_, rfl, heldC_call H.out hb, ?_⟩
      have BN := Lib.hid hb
      have KR := Lib.hid (blk_below hb KR.out)
      have H := Lib.hid (heldC_call H.out hb)
      clear hcp hb
      refine run_bldK (k := 2) (sa := si) (n := ni) (m := ci) (sb := sn) (n' := nn) (m' := cn) (show opAt (opsOf Try.f24 5) 9 = some (some 34, .build 31 #[(0, .const (.int .i64 2)), (1, .tmp 30), (3, .tmp 33)], none) from by kernel_rfl) (by kernel_rfl) (by kernel_rfl) (by kernel_rfl) (by kernel_rfl) H.out ?_
      refine run_store (w' := rw2.setRow (w.heap.size + 1 + 1) #[.int .i64 2, .slice si ni ci, .slice none 0 0, .slice sn nn cn, .slice none 0 0, .slice none 0 0, .int .i64 0, .int .i64 0]) (show opAt (opsOf Try.f24 5) 10 = some (none, .store 31 (.tmp 6) (.tmp 34), none) from by kernel_rfl) (by kernel_rfl) (by kernel_rfl) (by kernel_rfl) (store_vec8 KR.out (by simp [Value.oneCell'])) ⟨below_row H.out.1 (show w.heap.size ≤ w.heap.size + 1 + 1 by omega) _, fun q hq => row_old (H.out.2 q hq) (by
        rcases List.mem_cons.1 hq with rfl | hq
        · simp only; omega
        · obtain rfl := List.mem_singleton.1 hq
          simp only; omega)⟩ ?_
      refine run_asg (v := .string ⟨#[]⟩) (show opAt (opsOf Try.f24 5) 11 = some (some 7, .assign (.const (.string ⟨#[]⟩)), none) from by kernel_rfl) (by kernel_rfl) (by kernel_rfl) (by kernel_rfl) ?_
      refine run_done ?_
      simp only [putAll, Act.put, List.setIfInBounds_toArray, List.set_cons_zero, List.set_cons_succ]
      have XF := Lib.hid (show ariV (some 0) VA VB = mkN 2 (itF (fun i => addI (items0.getD (i % items0.length) noI) (items1.getD (i % items1.length) noI)) (recN items0.length items1.length)) (namesR (recN items0.length items1.length) names0 names1) from by
        have la : lenV k0 items0.length parts0.length = items0.length := len_counts (by rw [hVA]; exact hv.1) (by rw [hVA]; exact hcc.1)
        have lb : lenV k1 items1.length parts1.length = items1.length := len_counts (by rw [hVB]; exact hv.2) (by rw [hVB]; exact hcc.2)
        have hN : (lgcN VA VB).toNat = recN items0.length items1.length := by rw [← EA.out, ← EB.out]; exact size_rec hnn
        have nA : namesV VA = names0 := by rw [← hVA]; rfl
        have nB : namesV VB = names1 := by rw [← hVB]; rfl
        have iA : itemsV VA = items0 := by rw [← hVA]; rfl
        have iB : itemsV VB = items1 := by rw [← hVB]; rfl
        rw [XV.out.1, hN, EA.out, EB.out, nA, nB, iA, iB, names_same (by have := FA.h_names; rw [la] at this; exact this) (by have := FB.h_names; rw [lb] at this; exact this)]
        rfl)
      obtain ⟨a', c', Fi, e, o1, n1, r1, c1⟩ := OI.out
      obtain ⟨na, nc, Fn, e2, o2, n2, r2, c2⟩ := CP.out
      simp only [Value.slice.injEq] at e e2
      obtain ⟨rfl, rfl, rfl⟩ := e
      obtain ⟨rfl, rfl, rfl⟩ := e2
      have FIN := Lib.hid (own_pair (k := 2) (o1.kept (fun b hb => BN.out.block b (r1 b hb).2)) n1 r1 c1 o2 n2 r2 c2 IR0.out BN.out.size)
      have hr5 : w.heap.size + 1 + 1 < w4.heap.size := (Array.getElem?_eq_some_iff.1 KR4.out).1
      go_wp2
      rw [EI.out, XF.out, XS.out]
      exact vec_ret0S rfl rfl rfl rfl (row_set KR.out) ⟨_, rfl, (FIN.out.row (show w.heap.size + 1 + 1 < w4.heap.size from hr5)).wide (show w.heap.size ≤ w4.heap.size by omega) (row_size _ _ _), below_row H.out.1 (show w.heap.size ≤ w.heap.size + 1 + 1 by omega) _⟩
    · have XX := Lib.hid (ariV_no (oi := some 0) (a := VA) (b := VB) hp)
      obtain ⟨R, hR⟩ : ∃ R, prbB true VA VB nonNumB = R := ⟨_, rfl⟩
      rw [hR] at hp XS ⊢
      have hRb : (R.toList == []) = false := by have h := str_not hp; rw [ByteArray.toList_eq ⟨#[]⟩] at h; exact h
      clear hp hR
      obtain ⟨z0, z1, z2, z3, z4, z5, z6, z7⟩ := vec8 KR.out
      obtain ⟨f0, f1, f2, f3, f4, f5, f6, f7⟩ := free8 KR.out
      go_wp2
      rw [EI.out, XX.out, XS.out]
      exact vec_endS rfl rfl rfl rfl KR.out (zeroS _ w _ (put8_below B4.out (show w.heap.size ≤ w.heap.size + 1 + 1 by omega)))
  ·
    by_cases h_1 : op = opA 1
    · have EI := Lib.hid (idx_1 h_0 h_1)
      obtain rfl : op = ⟨#[45]⟩ := h_1
      clear h_0
      have lk := lookA_1 MP.out
      have XS := Lib.hid (show ariS (some 1) VA VB = prbB true VA VB nonNumB from ariS_prb (some 1) VA VB)
      go_wp2_with fail
      refine (PB.out w2 B2.out true).mono ?_
      rintro e w4 ⟨rfl, b⟩
      have B4 := Lib.hid (below_then B2.out b)
      have KA := Lib.hid (blk_below b KA.out)
      have KB := Lib.hid (blk_below b KB.out)
      have KR := Lib.hid (blk_below b KR.out)
      clear b ka0 ka1 ka2 ka3 ka4 ka5 ka6 ka7 kb0 kb1 kb2 kb3 kb4 kb5 kb6 kb7 lk
      by_cases hp : prbB true VA VB nonNumB = ⟨#[]⟩
      · have OK := Lib.hid (prb_ok (u := nonNumB) (by decide) hp)
        rw [hp]
        rw [hp] at XS
        obtain ⟨hv, hcc, hnn⟩ := OK.out
        have XV := Lib.hid (ari_yes (i := 1) hv hcc hnn)
        have EA := Lib.hid (show itL VA = items0.length by rw [← hVA]; rfl)
        have EB := Lib.hid (show itL VB = items1.length by rw [← hVB]; rfl)
        have ma : items0.length ≤ 40 := by rw [← EA.out]; exact itL_le hv.1 hcc.1
        have mb : items1.length ≤ 40 := by rw [← EB.out]; exact itL_le hv.2 hcc.2
        have XA : ∀ i, i < items0.length → NumIt (items0.getD i noI) := fun i hi => num_at (by rw [hVA]; exact hv.1) (by rw [hVA]; exact hcc.1) hi
        have XB : ∀ i, i < items1.length → NumIt (items1.getD i noI) := fun i hi => num_at (by rw [hVB]; exact hv.2) (by rw [hVB]; exact hcc.2) hi
        have FA : FlatOk k0 items0 parts0.length names0 cls0 lev0 code0 env0 := by have h := hv.1; rw [← hVA] at h; exact h.1.flat
        have FB : FlatOk k1 items1 parts1.length names1 cls1 lev1 code1 env1 := by have h := hv.2; rw [← hVB] at h; exact h.1.flat
        have CRI := Lib.hid (fun (W : World) (hH : HeldC w W ([(w.heap.size, 31, #[.int .i64 k0, .slice ai0 items0.length ci0, .slice ap0 parts0.length cp0, .slice an0 names0.length cn0, .slice ac0 cls0.length cc0, .slice al0 lev0.length cl0, .int .i64 code0, .int .i64 env0]), ((w.heap.size + 1), 31, #[.int .i64 k1, .slice ai1 items1.length ci1, .slice ap1 parts1.length cp1, .slice an1 names1.length cn1, .slice ac1 cls1.length cc1, .slice al1 lev1.length cl1, .int .i64 code1, .int .i64 env1])])) => implRecIts 126 #[] subI items0 items1 ai0 ai1 ci0 ci1 lo hi items0.length items1.length W (hI0.below hH.1 hhi) (hI1.below hH.1 hhi) (Nat.le_trans hhi hH.1.size) rfl rfl ma mb (by kernel_rfl)
          (fun i j W' hi' hj' hb' => implSub (items0.getD i noI) (items1.getD j noI) W' (XA i hi').t0 (XB j hj').t0))
        have CRN := Lib.hid (fun (W : World) (hH : HeldC w W ([(w.heap.size, 31, #[.int .i64 k0, .slice ai0 items0.length ci0, .slice ap0 parts0.length cp0, .slice an0 names0.length cn0, .slice ac0 cls0.length cc0, .slice al0 lev0.length cl0, .int .i64 code0, .int .i64 env0]), ((w.heap.size + 1), 31, #[.int .i64 k1, .slice ai1 items1.length ci1, .slice ap1 parts1.length cp1, .slice an1 names1.length cn1, .slice ac1 cls1.length cc1, .slice al1 lev1.length cl1, .int .i64 code1, .int .i64 env1])])) => implRecNames k0 names0 ai0 ap0 an0 ac0 al0 items0.length ci0 parts0.length cp0 cn0 cls0.length cc0 lev0.length cl0 code0 env0 k1 names1 ai1 ap1 an1 ac1 al1 items1.length ci1 parts1.length cp1 cn1 cls1.length cc1 lev1.length cl1 code1 env1 lo hi W (hN0.below hH.1 hhi) (hN1.below hH.1 hhi) (Nat.le_trans hhi hH.1.size) ln0 ln1 li0 li1)
        go_upto_region 5 with (fail)
        have KR4 := KR
        have H := Lib.hid (show HeldC w w4 ([(w.heap.size, 31, #[.int .i64 k0, .slice ai0 items0.length ci0, .slice ap0 parts0.length cp0, .slice an0 names0.length cn0, .slice ac0 cls0.length cc0, .slice al0 lev0.length cl0, .int .i64 code0, .int .i64 env0]), ((w.heap.size + 1), 31, #[.int .i64 k1, .slice ai1 items1.length ci1, .slice ap1 parts1.length cp1, .slice an1 names1.length cn1, .slice ac1 cls1.length cc1, .slice al1 lev1.length cl1, .int .i64 code1, .int .i64 env1])]) from heldC_cons (heldC_cons ⟨B4.out, (fun _ h => by cases h)⟩ KB.out) KA.out)
        refine run_region (ops := (opsOf Try.f24 5)) (S := fun w' => HeldC w w' ([(w.heap.size, 31, #[.int .i64 k0, .slice ai0 items0.length ci0, .slice ap0 parts0.length cp0, .slice an0 names0.length cn0, .slice ac0 cls0.length cc0, .slice al0 lev0.length cl0, .int .i64 code0, .int .i64 env0]), ((w.heap.size + 1), 31, #[.int .i64 k1, .slice ai1 items1.length ci1, .slice ap1 parts1.length cp1, .slice an1 names1.length cn1, .slice ac1 cls1.length cc1, .slice al1 lev1.length cl1, .int .i64 code1, .int .i64 env1])])) [(0, true), (1, true), (2, true), (3, true), (4, true), (6, true), (7, true), (5, false), (8, false), (9, false), (10, false), (11, true)] (by kernel_rfl) (by kernel_rfl) (by kernel_rfl) (by kernel_rfl) (by kernel_rfl) (fun _ _ _ _ _ h => h) (heldC_drew H.out) ?_
        have H := Lib.hid (heldC_drew H.out)
        have KR := Lib.hid (blk_below (below_drew' (Below.refl _ _)) KR.out)
        refine runC_partV (b := w.heap.size) (by kernel_rfl) (show opAt (opsOf Try.f24 5) 0 = some (some 25, .fieldAddr 31 (.tmp 4) 1, none) from by kernel_rfl) (by kernel_rfl) (by kernel_rfl) (by kernel_rfl) ?_
        refine runC_cell (b := w.heap.size) (j := 1) (v := .slice ai0 items0.length ci0) load_its (show opAt (opsOf Try.f24 5) 1 = some (some 26, .load 28 (.tmp 25), none) from by kernel_rfl) (by kernel_rfl) (by kernel_rfl) (by kernel_rfl) (List.Mem.head _) rfl ?_
        refine runC_partV (b := (w.heap.size + 1)) (by kernel_rfl) (show opAt (opsOf Try.f24 5) 2 = some (some 27, .fieldAddr 31 (.tmp 5) 1, none) from by kernel_rfl) (by kernel_rfl) (by kernel_rfl) (by kernel_rfl) ?_
        refine runC_cell (b := (w.heap.size + 1)) (j := 1) (v := .slice ai1 items1.length ci1) load_its (show opAt (opsOf Try.f24 5) 3 = some (some 28, .load 28 (.tmp 27), none) from by kernel_rfl) (by kernel_rfl) (by kernel_rfl) (by kernel_rfl) (List.Mem.tail _ (List.Mem.head _)) rfl ?_
        refine run_mov (v := .func (.func 126) #[] #[]) (show opAt (opsOf Try.f24 5) 4 = some (some 29, .move (.tmp 8), none) from by kernel_rfl) (by kernel_rfl) (by kernel_rfl) (by kernel_rfl) ?_
        refine runC_vec (b := w.heap.size) (show opAt (opsOf Try.f24 5) 6 = some (some 31, .load 31 (.tmp 4), none) from by kernel_rfl) (by kernel_rfl) (by kernel_rfl) (by kernel_rfl) (List.Mem.head _) ?_
        refine runC_vec (b := (w.heap.size + 1)) (show opAt (opsOf Try.f24 5) 7 = some (some 32, .load 31 (.tmp 5), none) from by kernel_rfl) (by kernel_rfl) (by kernel_rfl) (by kernel_rfl) (List.Mem.tail _ (List.Mem.head _)) ?_
        refine run_call (args := [.slice ai0 items0.length ci0, .slice ai1 items1.length ci1, .func (.func 126) #[] #[]]) (show opAt (opsOf Try.f24 5) 5 = some (some 30, .call { callee := .value (.func 61), args := [(.tmp 26), (.tmp 28), (.tmp 29)].toArray, argTypes := [28, 28, 70].toArray }, none) from by kernel_rfl) (by kernel_rfl) (by kernel_rfl) (by kernel_rfl) (by kernel_rfl) ?_
        refine (CRI.out _ H.out).mono ?_
        rintro en rw1 ⟨vi, rfl, hit⟩
        obtain ⟨si, ni, ci, rfl⟩ := hit.form
        have OI := Lib.hid (own_of_its hit.row)
        have IR0 := Lib.hid hit.below.size
        have KR := Lib.hid (blk_below hit.below KR.out)
        refine ⟨_, rfl, heldC_call H.out hit.below, ?_⟩
        have H := Lib.hid (heldC_call H.out hit.below)
        clear hit
        refine run_call (args := [.agg #[.int .i64 k0, .slice ai0 items0.length ci0, .slice ap0 parts0.length cp0, .slice an0 names0.length cn0, .slice ac0 cls0.length cc0, .slice al0 lev0.length cl0, .int .i64 code0, .int .i64 env0], .agg #[.int .i64 k1, .slice ai1 items1.length ci1, .slice ap1 parts1.length cp1, .slice an1 names1.length cn1, .slice ac1 cls1.length cc1, .slice al1 lev1.length cl1, .int .i64 code1, .int .i64 env1]]) (show opAt (opsOf Try.f24 5) 8 = some (some 33, .call { callee := .value (.func 62), args := [(.tmp 31), (.tmp 32)].toArray, argTypes := [31, 31].toArray }, none) from by kernel_rfl) (by kernel_rfl) (by kernel_rfl) (by kernel_rfl) (by kernel_rfl) ?_
        refine (CRN.out _ H.out).mono ?_
        rintro en rw2 ⟨⟨vn, rfl, hcp⟩, hb⟩
        have CP := Lib.hid hcp
        obtain ⟨sn, nn, cn, rfl⟩ : ∃ s n c, vn = .slice s n c := by obtain ⟨s, c, F, e, _⟩ := hcp; exact ⟨s, _, c, e⟩
        refine ⟨_, rfl, heldC_call H.out hb, ?_⟩
        have BN := Lib.hid hb
        have KR := Lib.hid (blk_below hb KR.out)
        have H := Lib.hid (heldC_call H.out hb)
        clear hcp hb
        refine run_bldK (k := 2) (sa := si) (n := ni) (m := ci) (sb := sn) (n' := nn) (m' := cn) (show opAt (opsOf Try.f24 5) 9 = some (some 34, .build 31 #[(0, .const (.int .i64 2)), (1, .tmp 30), (3, .tmp 33)], none) from by kernel_rfl) (by kernel_rfl) (by kernel_rfl) (by kernel_rfl) (by kernel_rfl) H.out ?_
        refine run_store (w' := rw2.setRow (w.heap.size + 1 + 1) #[.int .i64 2, .slice si ni ci, .slice none 0 0, .slice sn nn cn, .slice none 0 0, .slice none 0 0, .int .i64 0, .int .i64 0]) (show opAt (opsOf Try.f24 5) 10 = some (none, .store 31 (.tmp 6) (.tmp 34), none) from by kernel_rfl) (by kernel_rfl) (by kernel_rfl) (by kernel_rfl) (store_vec8 KR.out (by simp [Value.oneCell'])) ⟨below_row H.out.1 (show w.heap.size ≤ w.heap.size + 1 + 1 by omega) _, fun q hq => row_old (H.out.2 q hq) (by
          rcases List.mem_cons.1 hq with rfl | hq
          · simp only; omega
          · obtain rfl := List.mem_singleton.1 hq
            simp only; omega)⟩ ?_
        refine run_asg (v := .string ⟨#[]⟩) (show opAt (opsOf Try.f24 5) 11 = some (some 7, .assign (.const (.string ⟨#[]⟩)), none) from by kernel_rfl) (by kernel_rfl) (by kernel_rfl) (by kernel_rfl) ?_
        refine run_done ?_
        simp only [putAll, Act.put, List.setIfInBounds_toArray, List.set_cons_zero, List.set_cons_succ]
        have XF := Lib.hid (show ariV (some 1) VA VB = mkN 2 (itF (fun i => subI (items0.getD (i % items0.length) noI) (items1.getD (i % items1.length) noI)) (recN items0.length items1.length)) (namesR (recN items0.length items1.length) names0 names1) from by
          have la : lenV k0 items0.length parts0.length = items0.length := len_counts (by rw [hVA]; exact hv.1) (by rw [hVA]; exact hcc.1)
          have lb : lenV k1 items1.length parts1.length = items1.length := len_counts (by rw [hVB]; exact hv.2) (by rw [hVB]; exact hcc.2)
          have hN : (lgcN VA VB).toNat = recN items0.length items1.length := by rw [← EA.out, ← EB.out]; exact size_rec hnn
          have nA : namesV VA = names0 := by rw [← hVA]; rfl
          have nB : namesV VB = names1 := by rw [← hVB]; rfl
          have iA : itemsV VA = items0 := by rw [← hVA]; rfl
          have iB : itemsV VB = items1 := by rw [← hVB]; rfl
          rw [XV.out.1, hN, EA.out, EB.out, nA, nB, iA, iB, names_same (by have := FA.h_names; rw [la] at this; exact this) (by have := FB.h_names; rw [lb] at this; exact this)]
          rfl)
        obtain ⟨a', c', Fi, e, o1, n1, r1, c1⟩ := OI.out
        obtain ⟨na, nc, Fn, e2, o2, n2, r2, c2⟩ := CP.out
        simp only [Value.slice.injEq] at e e2
        obtain ⟨rfl, rfl, rfl⟩ := e
        obtain ⟨rfl, rfl, rfl⟩ := e2
        have FIN := Lib.hid (own_pair (k := 2) (o1.kept (fun b hb => BN.out.block b (r1 b hb).2)) n1 r1 c1 o2 n2 r2 c2 IR0.out BN.out.size)
        have hr5 : w.heap.size + 1 + 1 < w4.heap.size := (Array.getElem?_eq_some_iff.1 KR4.out).1
        go_wp2
        rw [EI.out, XF.out, XS.out]
        exact vec_ret0S rfl rfl rfl rfl (row_set KR.out) ⟨_, rfl, (FIN.out.row (show w.heap.size + 1 + 1 < w4.heap.size from hr5)).wide (show w.heap.size ≤ w4.heap.size by omega) (row_size _ _ _), below_row H.out.1 (show w.heap.size ≤ w.heap.size + 1 + 1 by omega) _⟩
      · have XX := Lib.hid (ariV_no (oi := some 1) (a := VA) (b := VB) hp)
        obtain ⟨R, hR⟩ : ∃ R, prbB true VA VB nonNumB = R := ⟨_, rfl⟩
        rw [hR] at hp XS ⊢
        have hRb : (R.toList == []) = false := by have h := str_not hp; rw [ByteArray.toList_eq ⟨#[]⟩] at h; exact h
        clear hp hR
        obtain ⟨z0, z1, z2, z3, z4, z5, z6, z7⟩ := vec8 KR.out
        obtain ⟨f0, f1, f2, f3, f4, f5, f6, f7⟩ := free8 KR.out
        go_wp2
        rw [EI.out, XX.out, XS.out]
        exact vec_endS rfl rfl rfl rfl KR.out (zeroS _ w _ (put8_below B4.out (show w.heap.size ≤ w.heap.size + 1 + 1 by omega)))
    ·
      by_cases h_2 : op = opA 2
      · have EI := Lib.hid (idx_2 h_0 h_1 h_2)
        obtain rfl : op = ⟨#[42]⟩ := h_2
        clear h_0 h_1
        have lk := lookA_2 MP.out
        have XS := Lib.hid (show ariS (some 2) VA VB = prbB true VA VB nonNumB from ariS_prb (some 2) VA VB)
        go_wp2_with fail
        refine (PB.out w2 B2.out true).mono ?_
        rintro e w4 ⟨rfl, b⟩
        have B4 := Lib.hid (below_then B2.out b)
        have KA := Lib.hid (blk_below b KA.out)
        have KB := Lib.hid (blk_below b KB.out)
        have KR := Lib.hid (blk_below b KR.out)
        clear b ka0 ka1 ka2 ka3 ka4 ka5 ka6 ka7 kb0 kb1 kb2 kb3 kb4 kb5 kb6 kb7 lk
        by_cases hp : prbB true VA VB nonNumB = ⟨#[]⟩
        · have OK := Lib.hid (prb_ok (u := nonNumB) (by decide) hp)
          rw [hp]
          rw [hp] at XS
          obtain ⟨hv, hcc, hnn⟩ := OK.out
          have XV := Lib.hid (ari_yes (i := 2) hv hcc hnn)
          have EA := Lib.hid (show itL VA = items0.length by rw [← hVA]; rfl)
          have EB := Lib.hid (show itL VB = items1.length by rw [← hVB]; rfl)
          have ma : items0.length ≤ 40 := by rw [← EA.out]; exact itL_le hv.1 hcc.1
          have mb : items1.length ≤ 40 := by rw [← EB.out]; exact itL_le hv.2 hcc.2
          have XA : ∀ i, i < items0.length → NumIt (items0.getD i noI) := fun i hi => num_at (by rw [hVA]; exact hv.1) (by rw [hVA]; exact hcc.1) hi
          have XB : ∀ i, i < items1.length → NumIt (items1.getD i noI) := fun i hi => num_at (by rw [hVB]; exact hv.2) (by rw [hVB]; exact hcc.2) hi
          have FA : FlatOk k0 items0 parts0.length names0 cls0 lev0 code0 env0 := by have h := hv.1; rw [← hVA] at h; exact h.1.flat
          have FB : FlatOk k1 items1 parts1.length names1 cls1 lev1 code1 env1 := by have h := hv.2; rw [← hVB] at h; exact h.1.flat
          have CRI := Lib.hid (fun (W : World) (hH : HeldC w W ([(w.heap.size, 31, #[.int .i64 k0, .slice ai0 items0.length ci0, .slice ap0 parts0.length cp0, .slice an0 names0.length cn0, .slice ac0 cls0.length cc0, .slice al0 lev0.length cl0, .int .i64 code0, .int .i64 env0]), ((w.heap.size + 1), 31, #[.int .i64 k1, .slice ai1 items1.length ci1, .slice ap1 parts1.length cp1, .slice an1 names1.length cn1, .slice ac1 cls1.length cc1, .slice al1 lev1.length cl1, .int .i64 code1, .int .i64 env1])])) => implRecIts 127 #[] mulI items0 items1 ai0 ai1 ci0 ci1 lo hi items0.length items1.length W (hI0.below hH.1 hhi) (hI1.below hH.1 hhi) (Nat.le_trans hhi hH.1.size) rfl rfl ma mb (by kernel_rfl)
            (fun i j W' hi' hj' hb' => implMul (items0.getD i noI) (items1.getD j noI) W' (XA i hi').t0 (XB j hj').t0))
          have CRN := Lib.hid (fun (W : World) (hH : HeldC w W ([(w.heap.size, 31, #[.int .i64 k0, .slice ai0 items0.length ci0, .slice ap0 parts0.length cp0, .slice an0 names0.length cn0, .slice ac0 cls0.length cc0, .slice al0 lev0.length cl0, .int .i64 code0, .int .i64 env0]), ((w.heap.size + 1), 31, #[.int .i64 k1, .slice ai1 items1.length ci1, .slice ap1 parts1.length cp1, .slice an1 names1.length cn1, .slice ac1 cls1.length cc1, .slice al1 lev1.length cl1, .int .i64 code1, .int .i64 env1])])) => implRecNames k0 names0 ai0 ap0 an0 ac0 al0 items0.length ci0 parts0.length cp0 cn0 cls0.length cc0 lev0.length cl0 code0 env0 k1 names1 ai1 ap1 an1 ac1 al1 items1.length ci1 parts1.length cp1 cn1 cls1.length cc1 lev1.length cl1 code1 env1 lo hi W (hN0.below hH.1 hhi) (hN1.below hH.1 hhi) (Nat.le_trans hhi hH.1.size) ln0 ln1 li0 li1)
          go_upto_region 5 with (fail)
          have KR4 := KR
          have H := Lib.hid (show HeldC w w4 ([(w.heap.size, 31, #[.int .i64 k0, .slice ai0 items0.length ci0, .slice ap0 parts0.length cp0, .slice an0 names0.length cn0, .slice ac0 cls0.length cc0, .slice al0 lev0.length cl0, .int .i64 code0, .int .i64 env0]), ((w.heap.size + 1), 31, #[.int .i64 k1, .slice ai1 items1.length ci1, .slice ap1 parts1.length cp1, .slice an1 names1.length cn1, .slice ac1 cls1.length cc1, .slice al1 lev1.length cl1, .int .i64 code1, .int .i64 env1])]) from heldC_cons (heldC_cons ⟨B4.out, (fun _ h => by cases h)⟩ KB.out) KA.out)
          refine run_region (ops := (opsOf Try.f24 5)) (S := fun w' => HeldC w w' ([(w.heap.size, 31, #[.int .i64 k0, .slice ai0 items0.length ci0, .slice ap0 parts0.length cp0, .slice an0 names0.length cn0, .slice ac0 cls0.length cc0, .slice al0 lev0.length cl0, .int .i64 code0, .int .i64 env0]), ((w.heap.size + 1), 31, #[.int .i64 k1, .slice ai1 items1.length ci1, .slice ap1 parts1.length cp1, .slice an1 names1.length cn1, .slice ac1 cls1.length cc1, .slice al1 lev1.length cl1, .int .i64 code1, .int .i64 env1])])) [(0, true), (1, true), (2, true), (3, true), (4, true), (6, true), (7, true), (5, false), (8, false), (9, false), (10, false), (11, true)] (by kernel_rfl) (by kernel_rfl) (by kernel_rfl) (by kernel_rfl) (by kernel_rfl) (fun _ _ _ _ _ h => h) (heldC_drew H.out) ?_
          have H := Lib.hid (heldC_drew H.out)
          have KR := Lib.hid (blk_below (below_drew' (Below.refl _ _)) KR.out)
          refine runC_partV (b := w.heap.size) (by kernel_rfl) (show opAt (opsOf Try.f24 5) 0 = some (some 25, .fieldAddr 31 (.tmp 4) 1, none) from by kernel_rfl) (by kernel_rfl) (by kernel_rfl) (by kernel_rfl) ?_
          refine runC_cell (b := w.heap.size) (j := 1) (v := .slice ai0 items0.length ci0) load_its (show opAt (opsOf Try.f24 5) 1 = some (some 26, .load 28 (.tmp 25), none) from by kernel_rfl) (by kernel_rfl) (by kernel_rfl) (by kernel_rfl) (List.Mem.head _) rfl ?_
          refine runC_partV (b := (w.heap.size + 1)) (by kernel_rfl) (show opAt (opsOf Try.f24 5) 2 = some (some 27, .fieldAddr 31 (.tmp 5) 1, none) from by kernel_rfl) (by kernel_rfl) (by kernel_rfl) (by kernel_rfl) ?_
          refine runC_cell (b := (w.heap.size + 1)) (j := 1) (v := .slice ai1 items1.length ci1) load_its (show opAt (opsOf Try.f24 5) 3 = some (some 28, .load 28 (.tmp 27), none) from by kernel_rfl) (by kernel_rfl) (by kernel_rfl) (by kernel_rfl) (List.Mem.tail _ (List.Mem.head _)) rfl ?_
          refine run_mov (v := .func (.func 127) #[] #[]) (show opAt (opsOf Try.f24 5) 4 = some (some 29, .move (.tmp 8), none) from by kernel_rfl) (by kernel_rfl) (by kernel_rfl) (by kernel_rfl) ?_
          refine runC_vec (b := w.heap.size) (show opAt (opsOf Try.f24 5) 6 = some (some 31, .load 31 (.tmp 4), none) from by kernel_rfl) (by kernel_rfl) (by kernel_rfl) (by kernel_rfl) (List.Mem.head _) ?_
          refine runC_vec (b := (w.heap.size + 1)) (show opAt (opsOf Try.f24 5) 7 = some (some 32, .load 31 (.tmp 5), none) from by kernel_rfl) (by kernel_rfl) (by kernel_rfl) (by kernel_rfl) (List.Mem.tail _ (List.Mem.head _)) ?_
          refine run_call (args := [.slice ai0 items0.length ci0, .slice ai1 items1.length ci1, .func (.func 127) #[] #[]]) (show opAt (opsOf Try.f24 5) 5 = some (some 30, .call { callee := .value (.func 61), args := [(.tmp 26), (.tmp 28), (.tmp 29)].toArray, argTypes := [28, 28, 70].toArray }, none) from by kernel_rfl) (by kernel_rfl) (by kernel_rfl) (by kernel_rfl) (by kernel_rfl) ?_
          refine (CRI.out _ H.out).mono ?_
          rintro en rw1 ⟨vi, rfl, hit⟩
          obtain ⟨si, ni, ci, rfl⟩ := hit.form
          have OI := Lib.hid (own_of_its hit.row)
          have IR0 := Lib.hid hit.below.size
          have KR := Lib.hid (blk_below hit.below KR.out)
          refine ⟨_, rfl, heldC_call H.out hit.below, ?_⟩
          have H := Lib.hid (heldC_call H.out hit.below)
          clear hit
          refine run_call (args := [.agg #[.int .i64 k0, .slice ai0 items0.length ci0, .slice ap0 parts0.length cp0, .slice an0 names0.length cn0, .slice ac0 cls0.length cc0, .slice al0 lev0.length cl0, .int .i64 code0, .int .i64 env0], .agg #[.int .i64 k1, .slice ai1 items1.length ci1, .slice ap1 parts1.length cp1, .slice an1 names1.length cn1, .slice ac1 cls1.length cc1, .slice al1 lev1.length cl1, .int .i64 code1, .int .i64 env1]]) (show opAt (opsOf Try.f24 5) 8 = some (some 33, .call { callee := .value (.func 62), args := [(.tmp 31), (.tmp 32)].toArray, argTypes := [31, 31].toArray }, none) from by kernel_rfl) (by kernel_rfl) (by kernel_rfl) (by kernel_rfl) (by kernel_rfl) ?_
          refine (CRN.out _ H.out).mono ?_
          rintro en rw2 ⟨⟨vn, rfl, hcp⟩, hb⟩
          have CP := Lib.hid hcp
          obtain ⟨sn, nn, cn, rfl⟩ : ∃ s n c, vn = .slice s n c := by obtain ⟨s, c, F, e, _⟩ := hcp; exact ⟨s, _, c, e⟩
          refine ⟨_, rfl, heldC_call H.out hb, ?_⟩
          have BN := Lib.hid hb
          have KR := Lib.hid (blk_below hb KR.out)
          have H := Lib.hid (heldC_call H.out hb)
          clear hcp hb
          refine run_bldK (k := 2) (sa := si) (n := ni) (m := ci) (sb := sn) (n' := nn) (m' := cn) (show opAt (opsOf Try.f24 5) 9 = some (some 34, .build 31 #[(0, .const (.int .i64 2)), (1, .tmp 30), (3, .tmp 33)], none) from by kernel_rfl) (by kernel_rfl) (by kernel_rfl) (by kernel_rfl) (by kernel_rfl) H.out ?_
          refine run_store (w' := rw2.setRow (w.heap.size + 1 + 1) #[.int .i64 2, .slice si ni ci, .slice none 0 0, .slice sn nn cn, .slice none 0 0, .slice none 0 0, .int .i64 0, .int .i64 0]) (show opAt (opsOf Try.f24 5) 10 = some (none, .store 31 (.tmp 6) (.tmp 34), none) from by kernel_rfl) (by kernel_rfl) (by kernel_rfl) (by kernel_rfl) (store_vec8 KR.out (by simp [Value.oneCell'])) ⟨below_row H.out.1 (show w.heap.size ≤ w.heap.size + 1 + 1 by omega) _, fun q hq => row_old (H.out.2 q hq) (by
            rcases List.mem_cons.1 hq with rfl | hq
            · simp only; omega
            · obtain rfl := List.mem_singleton.1 hq
              simp only; omega)⟩ ?_
          refine run_asg (v := .string ⟨#[]⟩) (show opAt (opsOf Try.f24 5) 11 = some (some 7, .assign (.const (.string ⟨#[]⟩)), none) from by kernel_rfl) (by kernel_rfl) (by kernel_rfl) (by kernel_rfl) ?_
          refine run_done ?_
          simp only [putAll, Act.put, List.setIfInBounds_toArray, List.set_cons_zero, List.set_cons_succ]
          have XF := Lib.hid (show ariV (some 2) VA VB = mkN 2 (itF (fun i => mulI (items0.getD (i % items0.length) noI) (items1.getD (i % items1.length) noI)) (recN items0.length items1.length)) (namesR (recN items0.length items1.length) names0 names1) from by
            have la : lenV k0 items0.length parts0.length = items0.length := len_counts (by rw [hVA]; exact hv.1) (by rw [hVA]; exact hcc.1)
            have lb : lenV k1 items1.length parts1.length = items1.length := len_counts (by rw [hVB]; exact hv.2) (by rw [hVB]; exact hcc.2)
            have hN : (lgcN VA VB).toNat = recN items0.length items1.length := by rw [← EA.out, ← EB.out]; exact size_rec hnn
            have nA : namesV VA = names0 := by rw [← hVA]; rfl
            have nB : namesV VB = names1 := by rw [← hVB]; rfl
            have iA : itemsV VA = items0 := by rw [← hVA]; rfl
            have iB : itemsV VB = items1 := by rw [← hVB]; rfl
            rw [XV.out.1, hN, EA.out, EB.out, nA, nB, iA, iB, names_same (by have := FA.h_names; rw [la] at this; exact this) (by have := FB.h_names; rw [lb] at this; exact this)]
            rfl)
          obtain ⟨a', c', Fi, e, o1, n1, r1, c1⟩ := OI.out
          obtain ⟨na, nc, Fn, e2, o2, n2, r2, c2⟩ := CP.out
          simp only [Value.slice.injEq] at e e2
          obtain ⟨rfl, rfl, rfl⟩ := e
          obtain ⟨rfl, rfl, rfl⟩ := e2
          have FIN := Lib.hid (own_pair (k := 2) (o1.kept (fun b hb => BN.out.block b (r1 b hb).2)) n1 r1 c1 o2 n2 r2 c2 IR0.out BN.out.size)
          have hr5 : w.heap.size + 1 + 1 < w4.heap.size := (Array.getElem?_eq_some_iff.1 KR4.out).1
          go_wp2
          rw [EI.out, XF.out, XS.out]
          exact vec_ret0S rfl rfl rfl rfl (row_set KR.out) ⟨_, rfl, (FIN.out.row (show w.heap.size + 1 + 1 < w4.heap.size from hr5)).wide (show w.heap.size ≤ w4.heap.size by omega) (row_size _ _ _), below_row H.out.1 (show w.heap.size ≤ w.heap.size + 1 + 1 by omega) _⟩
        · have XX := Lib.hid (ariV_no (oi := some 2) (a := VA) (b := VB) hp)
          obtain ⟨R, hR⟩ : ∃ R, prbB true VA VB nonNumB = R := ⟨_, rfl⟩
          rw [hR] at hp XS ⊢
          have hRb : (R.toList == []) = false := by have h := str_not hp; rw [ByteArray.toList_eq ⟨#[]⟩] at h; exact h
          clear hp hR
          obtain ⟨z0, z1, z2, z3, z4, z5, z6, z7⟩ := vec8 KR.out
          obtain ⟨f0, f1, f2, f3, f4, f5, f6, f7⟩ := free8 KR.out
          go_wp2
          rw [EI.out, XX.out, XS.out]
          exact vec_endS rfl rfl rfl rfl KR.out (zeroS _ w _ (put8_below B4.out (show w.heap.size ≤ w.heap.size + 1 + 1 by omega)))
      ·
        by_cases h_3 : op = opA 3
        · have EI := Lib.hid (idx_3 h_0 h_1 h_2 h_3)
          obtain rfl : op = ⟨#[47]⟩ := h_3
          clear h_0 h_1 h_2
          have lk := lookA_3 MP.out
          have XS := Lib.hid (show ariS (some 3) VA VB = prbB true VA VB nonNumB from ariS_prb (some 3) VA VB)
          go_wp2_with fail
          refine (PB.out w2 B2.out true).mono ?_
          rintro e w4 ⟨rfl, b⟩
          have B4 := Lib.hid (below_then B2.out b)
          have KA := Lib.hid (blk_below b KA.out)
          have KB := Lib.hid (blk_below b KB.out)
          have KR := Lib.hid (blk_below b KR.out)
          clear b ka0 ka1 ka2 ka3 ka4 ka5 ka6 ka7 kb0 kb1 kb2 kb3 kb4 kb5 kb6 kb7 lk
          by_cases hp : prbB true VA VB nonNumB = ⟨#[]⟩
          · have OK := Lib.hid (prb_ok (u := nonNumB) (by decide) hp)
            rw [hp]
            rw [hp] at XS
            obtain ⟨hv, hcc, hnn⟩ := OK.out
            have XV := Lib.hid (ari_yes (i := 3) hv hcc hnn)
            have EA := Lib.hid (show itL VA = items0.length by rw [← hVA]; rfl)
            have EB := Lib.hid (show itL VB = items1.length by rw [← hVB]; rfl)
            have ma : items0.length ≤ 40 := by rw [← EA.out]; exact itL_le hv.1 hcc.1
            have mb : items1.length ≤ 40 := by rw [← EB.out]; exact itL_le hv.2 hcc.2
            have XA : ∀ i, i < items0.length → NumIt (items0.getD i noI) := fun i hi => num_at (by rw [hVA]; exact hv.1) (by rw [hVA]; exact hcc.1) hi
            have XB : ∀ i, i < items1.length → NumIt (items1.getD i noI) := fun i hi => num_at (by rw [hVB]; exact hv.2) (by rw [hVB]; exact hcc.2) hi
            have FA : FlatOk k0 items0 parts0.length names0 cls0 lev0 code0 env0 := by have h := hv.1; rw [← hVA] at h; exact h.1.flat
            have FB : FlatOk k1 items1 parts1.length names1 cls1 lev1 code1 env1 := by have h := hv.2; rw [← hVB] at h; exact h.1.flat
            have CRI := Lib.hid (fun (W : World) (hH : HeldC w W ([(w.heap.size, 31, #[.int .i64 k0, .slice ai0 items0.length ci0, .slice ap0 parts0.length cp0, .slice an0 names0.length cn0, .slice ac0 cls0.length cc0, .slice al0 lev0.length cl0, .int .i64 code0, .int .i64 env0]), ((w.heap.size + 1), 31, #[.int .i64 k1, .slice ai1 items1.length ci1, .slice ap1 parts1.length cp1, .slice an1 names1.length cn1, .slice ac1 cls1.length cc1, .slice al1 lev1.length cl1, .int .i64 code1, .int .i64 env1])])) => implRecIts 128 #[] divI items0 items1 ai0 ai1 ci0 ci1 lo hi items0.length items1.length W (hI0.below hH.1 hhi) (hI1.below hH.1 hhi) (Nat.le_trans hhi hH.1.size) rfl rfl ma mb (by kernel_rfl)
              (fun i j W' hi' hj' hb' => implDiv (items0.getD i noI) (items1.getD j noI) W' (XA i hi').t0 (XB j hj').t0))
            have CRN := Lib.hid (fun (W : World) (hH : HeldC w W ([(w.heap.size, 31, #[.int .i64 k0, .slice ai0 items0.length ci0, .slice ap0 parts0.length cp0, .slice an0 names0.length cn0, .slice ac0 cls0.length cc0, .slice al0 lev0.length cl0, .int .i64 code0, .int .i64 env0]), ((w.heap.size + 1), 31, #[.int .i64 k1, .slice ai1 items1.length ci1, .slice ap1 parts1.length cp1, .slice an1 names1.length cn1, .slice ac1 cls1.length cc1, .slice al1 lev1.length cl1, .int .i64 code1, .int .i64 env1])])) => implRecNames k0 names0 ai0 ap0 an0 ac0 al0 items0.length ci0 parts0.length cp0 cn0 cls0.length cc0 lev0.length cl0 code0 env0 k1 names1 ai1 ap1 an1 ac1 al1 items1.length ci1 parts1.length cp1 cn1 cls1.length cc1 lev1.length cl1 code1 env1 lo hi W (hN0.below hH.1 hhi) (hN1.below hH.1 hhi) (Nat.le_trans hhi hH.1.size) ln0 ln1 li0 li1)
            go_upto_region 5 with (fail)
            have KR4 := KR
            have H := Lib.hid (show HeldC w w4 ([(w.heap.size, 31, #[.int .i64 k0, .slice ai0 items0.length ci0, .slice ap0 parts0.length cp0, .slice an0 names0.length cn0, .slice ac0 cls0.length cc0, .slice al0 lev0.length cl0, .int .i64 code0, .int .i64 env0]), ((w.heap.size + 1), 31, #[.int .i64 k1, .slice ai1 items1.length ci1, .slice ap1 parts1.length cp1, .slice an1 names1.length cn1, .slice ac1 cls1.length cc1, .slice al1 lev1.length cl1, .int .i64 code1, .int .i64 env1])]) from heldC_cons (heldC_cons ⟨B4.out, (fun _ h => by cases h)⟩ KB.out) KA.out)
            refine run_region (ops := (opsOf Try.f24 5)) (S := fun w' => HeldC w w' ([(w.heap.size, 31, #[.int .i64 k0, .slice ai0 items0.length ci0, .slice ap0 parts0.length cp0, .slice an0 names0.length cn0, .slice ac0 cls0.length cc0, .slice al0 lev0.length cl0, .int .i64 code0, .int .i64 env0]), ((w.heap.size + 1), 31, #[.int .i64 k1, .slice ai1 items1.length ci1, .slice ap1 parts1.length cp1, .slice an1 names1.length cn1, .slice ac1 cls1.length cc1, .slice al1 lev1.length cl1, .int .i64 code1, .int .i64 env1])])) [(0, true), (1, true), (2, true), (3, true), (4, true), (6, true), (7, true), (5, false), (8, false), (9, false), (10, false), (11, true)] (by kernel_rfl) (by kernel_rfl) (by kernel_rfl) (by kernel_rfl) (by kernel_rfl) (fun _ _ _ _ _ h => h) (heldC_drew H.out) ?_
            have H := Lib.hid (heldC_drew H.out)
            have KR := Lib.hid (blk_below (below_drew' (Below.refl _ _)) KR.out)
            refine runC_partV (b := w.heap.size) (by kernel_rfl) (show opAt (opsOf Try.f24 5) 0 = some (some 25, .fieldAddr 31 (.tmp 4) 1, none) from by kernel_rfl) (by kernel_rfl) (by kernel_rfl) (by kernel_rfl) ?_
            refine runC_cell (b := w.heap.size) (j := 1) (v := .slice ai0 items0.length ci0) load_its (show opAt (opsOf Try.f24 5) 1 = some (some 26, .load 28 (.tmp 25), none) from by kernel_rfl) (by kernel_rfl) (by kernel_rfl) (by kernel_rfl) (List.Mem.head _) rfl ?_
            refine runC_partV (b := (w.heap.size + 1)) (by kernel_rfl) (show opAt (opsOf Try.f24 5) 2 = some (some 27, .fieldAddr 31 (.tmp 5) 1, none) from by kernel_rfl) (by kernel_rfl) (by kernel_rfl) (by kernel_rfl) ?_
            refine runC_cell (b := (w.heap.size + 1)) (j := 1) (v := .slice ai1 items1.length ci1) load_its (show opAt (opsOf Try.f24 5) 3 = some (some 28, .load 28 (.tmp 27), none) from by kernel_rfl) (by kernel_rfl) (by kernel_rfl) (by kernel_rfl) (List.Mem.tail _ (List.Mem.head _)) rfl ?_
            refine run_mov (v := .func (.func 128) #[] #[]) (show opAt (opsOf Try.f24 5) 4 = some (some 29, .move (.tmp 8), none) from by kernel_rfl) (by kernel_rfl) (by kernel_rfl) (by kernel_rfl) ?_
            refine runC_vec (b := w.heap.size) (show opAt (opsOf Try.f24 5) 6 = some (some 31, .load 31 (.tmp 4), none) from by kernel_rfl) (by kernel_rfl) (by kernel_rfl) (by kernel_rfl) (List.Mem.head _) ?_
            refine runC_vec (b := (w.heap.size + 1)) (show opAt (opsOf Try.f24 5) 7 = some (some 32, .load 31 (.tmp 5), none) from by kernel_rfl) (by kernel_rfl) (by kernel_rfl) (by kernel_rfl) (List.Mem.tail _ (List.Mem.head _)) ?_
            refine run_call (args := [.slice ai0 items0.length ci0, .slice ai1 items1.length ci1, .func (.func 128) #[] #[]]) (show opAt (opsOf Try.f24 5) 5 = some (some 30, .call { callee := .value (.func 61), args := [(.tmp 26), (.tmp 28), (.tmp 29)].toArray, argTypes := [28, 28, 70].toArray }, none) from by kernel_rfl) (by kernel_rfl) (by kernel_rfl) (by kernel_rfl) (by kernel_rfl) ?_
            refine (CRI.out _ H.out).mono ?_
            rintro en rw1 ⟨vi, rfl, hit⟩
            obtain ⟨si, ni, ci, rfl⟩ := hit.form
            have OI := Lib.hid (own_of_its hit.row)
            have IR0 := Lib.hid hit.below.size
            have KR := Lib.hid (blk_below hit.below KR.out)
            refine ⟨_, rfl, heldC_call H.out hit.below, ?_⟩
            have H := Lib.hid (heldC_call H.out hit.below)
            clear hit
            refine run_call (args := [.agg #[.int .i64 k0, .slice ai0 items0.length ci0, .slice ap0 parts0.length cp0, .slice an0 names0.length cn0, .slice ac0 cls0.length cc0, .slice al0 lev0.length cl0, .int .i64 code0, .int .i64 env0], .agg #[.int .i64 k1, .slice ai1 items1.length ci1, .slice ap1 parts1.length cp1, .slice an1 names1.length cn1, .slice ac1 cls1.length cc1, .slice al1 lev1.length cl1, .int .i64 code1, .int .i64 env1]]) (show opAt (opsOf Try.f24 5) 8 = some (some 33, .call { callee := .value (.func 62), args := [(.tmp 31), (.tmp 32)].toArray, argTypes := [31, 31].toArray }, none) from by kernel_rfl) (by kernel_rfl) (by kernel_rfl) (by kernel_rfl) (by kernel_rfl) ?_
            refine (CRN.out _ H.out).mono ?_
            rintro en rw2 ⟨⟨vn, rfl, hcp⟩, hb⟩
            have CP := Lib.hid hcp
            obtain ⟨sn, nn, cn, rfl⟩ : ∃ s n c, vn = .slice s n c := by obtain ⟨s, c, F, e, _⟩ := hcp; exact ⟨s, _, c, e⟩
            refine ⟨_, rfl, heldC_call H.out hb, ?_⟩
            have BN := Lib.hid hb
            have KR := Lib.hid (blk_below hb KR.out)
            have H := Lib.hid (heldC_call H.out hb)
            clear hcp hb
            refine run_bldK (k := 2) (sa := si) (n := ni) (m := ci) (sb := sn) (n' := nn) (m' := cn) (show opAt (opsOf Try.f24 5) 9 = some (some 34, .build 31 #[(0, .const (.int .i64 2)), (1, .tmp 30), (3, .tmp 33)], none) from by kernel_rfl) (by kernel_rfl) (by kernel_rfl) (by kernel_rfl) (by kernel_rfl) H.out ?_
            refine run_store (w' := rw2.setRow (w.heap.size + 1 + 1) #[.int .i64 2, .slice si ni ci, .slice none 0 0, .slice sn nn cn, .slice none 0 0, .slice none 0 0, .int .i64 0, .int .i64 0]) (show opAt (opsOf Try.f24 5) 10 = some (none, .store 31 (.tmp 6) (.tmp 34), none) from by kernel_rfl) (by kernel_rfl) (by kernel_rfl) (by kernel_rfl) (store_vec8 KR.out (by simp [Value.oneCell'])) ⟨below_row H.out.1 (show w.heap.size ≤ w.heap.size + 1 + 1 by omega) _, fun q hq => row_old (H.out.2 q hq) (by
              rcases List.mem_cons.1 hq with rfl | hq
              · simp only; omega
              · obtain rfl := List.mem_singleton.1 hq
                simp only; omega)⟩ ?_
            refine run_asg (v := .string ⟨#[]⟩) (show opAt (opsOf Try.f24 5) 11 = some (some 7, .assign (.const (.string ⟨#[]⟩)), none) from by kernel_rfl) (by kernel_rfl) (by kernel_rfl) (by kernel_rfl) ?_
            refine run_done ?_
            simp only [putAll, Act.put, List.setIfInBounds_toArray, List.set_cons_zero, List.set_cons_succ]
            have XF := Lib.hid (show ariV (some 3) VA VB = mkN 2 (itF (fun i => divI (items0.getD (i % items0.length) noI) (items1.getD (i % items1.length) noI)) (recN items0.length items1.length)) (namesR (recN items0.length items1.length) names0 names1) from by
              have la : lenV k0 items0.length parts0.length = items0.length := len_counts (by rw [hVA]; exact hv.1) (by rw [hVA]; exact hcc.1)
              have lb : lenV k1 items1.length parts1.length = items1.length := len_counts (by rw [hVB]; exact hv.2) (by rw [hVB]; exact hcc.2)
              have hN : (lgcN VA VB).toNat = recN items0.length items1.length := by rw [← EA.out, ← EB.out]; exact size_rec hnn
              have nA : namesV VA = names0 := by rw [← hVA]; rfl
              have nB : namesV VB = names1 := by rw [← hVB]; rfl
              have iA : itemsV VA = items0 := by rw [← hVA]; rfl
              have iB : itemsV VB = items1 := by rw [← hVB]; rfl
              rw [XV.out.1, hN, EA.out, EB.out, nA, nB, iA, iB, names_same (by have := FA.h_names; rw [la] at this; exact this) (by have := FB.h_names; rw [lb] at this; exact this)]
              rfl)
            obtain ⟨a', c', Fi, e, o1, n1, r1, c1⟩ := OI.out
            obtain ⟨na, nc, Fn, e2, o2, n2, r2, c2⟩ := CP.out
            simp only [Value.slice.injEq] at e e2
            obtain ⟨rfl, rfl, rfl⟩ := e
            obtain ⟨rfl, rfl, rfl⟩ := e2
            have FIN := Lib.hid (own_pair (k := 2) (o1.kept (fun b hb => BN.out.block b (r1 b hb).2)) n1 r1 c1 o2 n2 r2 c2 IR0.out BN.out.size)
            have hr5 : w.heap.size + 1 + 1 < w4.heap.size := (Array.getElem?_eq_some_iff.1 KR4.out).1
            go_wp2
            rw [EI.out, XF.out, XS.out]
            exact vec_ret0S rfl rfl rfl rfl (row_set KR.out) ⟨_, rfl, (FIN.out.row (show w.heap.size + 1 + 1 < w4.heap.size from hr5)).wide (show w.heap.size ≤ w4.heap.size by omega) (row_size _ _ _), below_row H.out.1 (show w.heap.size ≤ w.heap.size + 1 + 1 by omega) _⟩
          · have XX := Lib.hid (ariV_no (oi := some 3) (a := VA) (b := VB) hp)
            obtain ⟨R, hR⟩ : ∃ R, prbB true VA VB nonNumB = R := ⟨_, rfl⟩
            rw [hR] at hp XS ⊢
            have hRb : (R.toList == []) = false := by have h := str_not hp; rw [ByteArray.toList_eq ⟨#[]⟩] at h; exact h
            clear hp hR
            obtain ⟨z0, z1, z2, z3, z4, z5, z6, z7⟩ := vec8 KR.out
            obtain ⟨f0, f1, f2, f3, f4, f5, f6, f7⟩ := free8 KR.out
            go_wp2
            rw [EI.out, XX.out, XS.out]
            exact vec_endS rfl rfl rfl rfl KR.out (zeroS _ w _ (put8_below B4.out (show w.heap.size ≤ w.heap.size + 1 + 1 by omega)))
        ·
          by_cases h_4 : op = opA 4
          · have EI := Lib.hid (idx_4 h_0 h_1 h_2 h_3 h_4)
            obtain rfl : op = ⟨#[94]⟩ := h_4
            clear h_0 h_1 h_2 h_3
            have lk := lookA_4 MP.out
            have XS := Lib.hid (show ariS (some 4) VA VB = prbB true VA VB nonNumB from ariS_prb (some 4) VA VB)
            go_wp2_with fail
            refine (PB.out w2 B2.out true).mono ?_
            rintro e w4 ⟨rfl, b⟩
            have B4 := Lib.hid (below_then B2.out b)
            have KA := Lib.hid (blk_below b KA.out)
            have KB := Lib.hid (blk_below b KB.out)
            have KR := Lib.hid (blk_below b KR.out)
            clear b ka0 ka1 ka2 ka3 ka4 ka5 ka6 ka7 kb0 kb1 kb2 kb3 kb4 kb5 kb6 kb7 lk
            by_cases hp : prbB true VA VB nonNumB = ⟨#[]⟩
            · have OK := Lib.hid (prb_ok (u := nonNumB) (by decide) hp)
              rw [hp]
              rw [hp] at XS
              obtain ⟨hv, hcc, hnn⟩ := OK.out
              have XV := Lib.hid (ari_yes (i := 4) hv hcc hnn)
              have EA := Lib.hid (show itL VA = items0.length by rw [← hVA]; rfl)
              have EB := Lib.hid (show itL VB = items1.length by rw [← hVB]; rfl)
              have ma : items0.length ≤ 40 := by rw [← EA.out]; exact itL_le hv.1 hcc.1
              have mb : items1.length ≤ 40 := by rw [← EB.out]; exact itL_le hv.2 hcc.2
              have XA : ∀ i, i < items0.length → NumIt (items0.getD i noI) := fun i hi => num_at (by rw [hVA]; exact hv.1) (by rw [hVA]; exact hcc.1) hi
              have XB : ∀ i, i < items1.length → NumIt (items1.getD i noI) := fun i hi => num_at (by rw [hVB]; exact hv.2) (by rw [hVB]; exact hcc.2) hi
              have FA : FlatOk k0 items0 parts0.length names0 cls0 lev0 code0 env0 := by have h := hv.1; rw [← hVA] at h; exact h.1.flat
              have FB : FlatOk k1 items1 parts1.length names1 cls1 lev1 code1 env1 := by have h := hv.2; rw [← hVB] at h; exact h.1.flat
              have CRI := Lib.hid (fun (W : World) (hH : HeldC w W ([(w.heap.size, 31, #[.int .i64 k0, .slice ai0 items0.length ci0, .slice ap0 parts0.length cp0, .slice an0 names0.length cn0, .slice ac0 cls0.length cc0, .slice al0 lev0.length cl0, .int .i64 code0, .int .i64 env0]), ((w.heap.size + 1), 31, #[.int .i64 k1, .slice ai1 items1.length ci1, .slice ap1 parts1.length cp1, .slice an1 names1.length cn1, .slice ac1 cls1.length cc1, .slice al1 lev1.length cl1, .int .i64 code1, .int .i64 env1])])) => implRecIts 129 #[] powI items0 items1 ai0 ai1 ci0 ci1 lo hi items0.length items1.length W (hI0.below hH.1 hhi) (hI1.below hH.1 hhi) (Nat.le_trans hhi hH.1.size) rfl rfl ma mb (by kernel_rfl)
                (fun i j W' hi' hj' hb' => implPow (items0.getD i noI) (items1.getD j noI) W' (XA i hi').t0 (XB j hj').t0))
              have CRN := Lib.hid (fun (W : World) (hH : HeldC w W ([(w.heap.size, 31, #[.int .i64 k0, .slice ai0 items0.length ci0, .slice ap0 parts0.length cp0, .slice an0 names0.length cn0, .slice ac0 cls0.length cc0, .slice al0 lev0.length cl0, .int .i64 code0, .int .i64 env0]), ((w.heap.size + 1), 31, #[.int .i64 k1, .slice ai1 items1.length ci1, .slice ap1 parts1.length cp1, .slice an1 names1.length cn1, .slice ac1 cls1.length cc1, .slice al1 lev1.length cl1, .int .i64 code1, .int .i64 env1])])) => implRecNames k0 names0 ai0 ap0 an0 ac0 al0 items0.length ci0 parts0.length cp0 cn0 cls0.length cc0 lev0.length cl0 code0 env0 k1 names1 ai1 ap1 an1 ac1 al1 items1.length ci1 parts1.length cp1 cn1 cls1.length cc1 lev1.length cl1 code1 env1 lo hi W (hN0.below hH.1 hhi) (hN1.below hH.1 hhi) (Nat.le_trans hhi hH.1.size) ln0 ln1 li0 li1)
              go_upto_region 5 with (fail)
              have KR4 := KR
              have H := Lib.hid (show HeldC w w4 ([(w.heap.size, 31, #[.int .i64 k0, .slice ai0 items0.length ci0, .slice ap0 parts0.length cp0, .slice an0 names0.length cn0, .slice ac0 cls0.length cc0, .slice al0 lev0.length cl0, .int .i64 code0, .int .i64 env0]), ((w.heap.size + 1), 31, #[.int .i64 k1, .slice ai1 items1.length ci1, .slice ap1 parts1.length cp1, .slice an1 names1.length cn1, .slice ac1 cls1.length cc1, .slice al1 lev1.length cl1, .int .i64 code1, .int .i64 env1])]) from heldC_cons (heldC_cons ⟨B4.out, (fun _ h => by cases h)⟩ KB.out) KA.out)
              refine run_region (ops := (opsOf Try.f24 5)) (S := fun w' => HeldC w w' ([(w.heap.size, 31, #[.int .i64 k0, .slice ai0 items0.length ci0, .slice ap0 parts0.length cp0, .slice an0 names0.length cn0, .slice ac0 cls0.length cc0, .slice al0 lev0.length cl0, .int .i64 code0, .int .i64 env0]), ((w.heap.size + 1), 31, #[.int .i64 k1, .slice ai1 items1.length ci1, .slice ap1 parts1.length cp1, .slice an1 names1.length cn1, .slice ac1 cls1.length cc1, .slice al1 lev1.length cl1, .int .i64 code1, .int .i64 env1])])) [(0, true), (1, true), (2, true), (3, true), (4, true), (6, true), (7, true), (5, false), (8, false), (9, false), (10, false), (11, true)] (by kernel_rfl) (by kernel_rfl) (by kernel_rfl) (by kernel_rfl) (by kernel_rfl) (fun _ _ _ _ _ h => h) (heldC_drew H.out) ?_
              have H := Lib.hid (heldC_drew H.out)
              have KR := Lib.hid (blk_below (below_drew' (Below.refl _ _)) KR.out)
              refine runC_partV (b := w.heap.size) (by kernel_rfl) (show opAt (opsOf Try.f24 5) 0 = some (some 25, .fieldAddr 31 (.tmp 4) 1, none) from by kernel_rfl) (by kernel_rfl) (by kernel_rfl) (by kernel_rfl) ?_
              refine runC_cell (b := w.heap.size) (j := 1) (v := .slice ai0 items0.length ci0) load_its (show opAt (opsOf Try.f24 5) 1 = some (some 26, .load 28 (.tmp 25), none) from by kernel_rfl) (by kernel_rfl) (by kernel_rfl) (by kernel_rfl) (List.Mem.head _) rfl ?_
              refine runC_partV (b := (w.heap.size + 1)) (by kernel_rfl) (show opAt (opsOf Try.f24 5) 2 = some (some 27, .fieldAddr 31 (.tmp 5) 1, none) from by kernel_rfl) (by kernel_rfl) (by kernel_rfl) (by kernel_rfl) ?_
              refine runC_cell (b := (w.heap.size + 1)) (j := 1) (v := .slice ai1 items1.length ci1) load_its (show opAt (opsOf Try.f24 5) 3 = some (some 28, .load 28 (.tmp 27), none) from by kernel_rfl) (by kernel_rfl) (by kernel_rfl) (by kernel_rfl) (List.Mem.tail _ (List.Mem.head _)) rfl ?_
              refine run_mov (v := .func (.func 129) #[] #[]) (show opAt (opsOf Try.f24 5) 4 = some (some 29, .move (.tmp 8), none) from by kernel_rfl) (by kernel_rfl) (by kernel_rfl) (by kernel_rfl) ?_
              refine runC_vec (b := w.heap.size) (show opAt (opsOf Try.f24 5) 6 = some (some 31, .load 31 (.tmp 4), none) from by kernel_rfl) (by kernel_rfl) (by kernel_rfl) (by kernel_rfl) (List.Mem.head _) ?_
              refine runC_vec (b := (w.heap.size + 1)) (show opAt (opsOf Try.f24 5) 7 = some (some 32, .load 31 (.tmp 5), none) from by kernel_rfl) (by kernel_rfl) (by kernel_rfl) (by kernel_rfl) (List.Mem.tail _ (List.Mem.head _)) ?_
              refine run_call (args := [.slice ai0 items0.length ci0, .slice ai1 items1.length ci1, .func (.func 129) #[] #[]]) (show opAt (opsOf Try.f24 5) 5 = some (some 30, .call { callee := .value (.func 61), args := [(.tmp 26), (.tmp 28), (.tmp 29)].toArray, argTypes := [28, 28, 70].toArray }, none) from by kernel_rfl) (by kernel_rfl) (by kernel_rfl) (by kernel_rfl) (by kernel_rfl) ?_
              refine (CRI.out _ H.out).mono ?_
              rintro en rw1 ⟨vi, rfl, hit⟩
              obtain ⟨si, ni, ci, rfl⟩ := hit.form
              have OI := Lib.hid (own_of_its hit.row)
              have IR0 := Lib.hid hit.below.size
              have KR := Lib.hid (blk_below hit.below KR.out)
              refine ⟨_, rfl, heldC_call H.out hit.below, ?_⟩
              have H := Lib.hid (heldC_call H.out hit.below)
              clear hit
              refine run_call (args := [.agg #[.int .i64 k0, .slice ai0 items0.length ci0, .slice ap0 parts0.length cp0, .slice an0 names0.length cn0, .slice ac0 cls0.length cc0, .slice al0 lev0.length cl0, .int .i64 code0, .int .i64 env0], .agg #[.int .i64 k1, .slice ai1 items1.length ci1, .slice ap1 parts1.length cp1, .slice an1 names1.length cn1, .slice ac1 cls1.length cc1, .slice al1 lev1.length cl1, .int .i64 code1, .int .i64 env1]]) (show opAt (opsOf Try.f24 5) 8 = some (some 33, .call { callee := .value (.func 62), args := [(.tmp 31), (.tmp 32)].toArray, argTypes := [31, 31].toArray }, none) from by kernel_rfl) (by kernel_rfl) (by kernel_rfl) (by kernel_rfl) (by kernel_rfl) ?_
              refine (CRN.out _ H.out).mono ?_
              rintro en rw2 ⟨⟨vn, rfl, hcp⟩, hb⟩
              have CP := Lib.hid hcp
              obtain ⟨sn, nn, cn, rfl⟩ : ∃ s n c, vn = .slice s n c := by obtain ⟨s, c, F, e, _⟩ := hcp; exact ⟨s, _, c, e⟩
              refine ⟨_, rfl, heldC_call H.out hb, ?_⟩
              have BN := Lib.hid hb
              have KR := Lib.hid (blk_below hb KR.out)
              have H := Lib.hid (heldC_call H.out hb)
              clear hcp hb
              refine run_bldK (k := 2) (sa := si) (n := ni) (m := ci) (sb := sn) (n' := nn) (m' := cn) (show opAt (opsOf Try.f24 5) 9 = some (some 34, .build 31 #[(0, .const (.int .i64 2)), (1, .tmp 30), (3, .tmp 33)], none) from by kernel_rfl) (by kernel_rfl) (by kernel_rfl) (by kernel_rfl) (by kernel_rfl) H.out ?_
              refine run_store (w' := rw2.setRow (w.heap.size + 1 + 1) #[.int .i64 2, .slice si ni ci, .slice none 0 0, .slice sn nn cn, .slice none 0 0, .slice none 0 0, .int .i64 0, .int .i64 0]) (show opAt (opsOf Try.f24 5) 10 = some (none, .store 31 (.tmp 6) (.tmp 34), none) from by kernel_rfl) (by kernel_rfl) (by kernel_rfl) (by kernel_rfl) (store_vec8 KR.out (by simp [Value.oneCell'])) ⟨below_row H.out.1 (show w.heap.size ≤ w.heap.size + 1 + 1 by omega) _, fun q hq => row_old (H.out.2 q hq) (by
                rcases List.mem_cons.1 hq with rfl | hq
                · simp only; omega
                · obtain rfl := List.mem_singleton.1 hq
                  simp only; omega)⟩ ?_
              refine run_asg (v := .string ⟨#[]⟩) (show opAt (opsOf Try.f24 5) 11 = some (some 7, .assign (.const (.string ⟨#[]⟩)), none) from by kernel_rfl) (by kernel_rfl) (by kernel_rfl) (by kernel_rfl) ?_
              refine run_done ?_
              simp only [putAll, Act.put, List.setIfInBounds_toArray, List.set_cons_zero, List.set_cons_succ]
              have XF := Lib.hid (show ariV (some 4) VA VB = mkN 2 (itF (fun i => powI (items0.getD (i % items0.length) noI) (items1.getD (i % items1.length) noI)) (recN items0.length items1.length)) (namesR (recN items0.length items1.length) names0 names1) from by
                have la : lenV k0 items0.length parts0.length = items0.length := len_counts (by rw [hVA]; exact hv.1) (by rw [hVA]; exact hcc.1)
                have lb : lenV k1 items1.length parts1.length = items1.length := len_counts (by rw [hVB]; exact hv.2) (by rw [hVB]; exact hcc.2)
                have hN : (lgcN VA VB).toNat = recN items0.length items1.length := by rw [← EA.out, ← EB.out]; exact size_rec hnn
                have nA : namesV VA = names0 := by rw [← hVA]; rfl
                have nB : namesV VB = names1 := by rw [← hVB]; rfl
                have iA : itemsV VA = items0 := by rw [← hVA]; rfl
                have iB : itemsV VB = items1 := by rw [← hVB]; rfl
                rw [XV.out.1, hN, EA.out, EB.out, nA, nB, iA, iB, names_same (by have := FA.h_names; rw [la] at this; exact this) (by have := FB.h_names; rw [lb] at this; exact this)]
                rfl)
              obtain ⟨a', c', Fi, e, o1, n1, r1, c1⟩ := OI.out
              obtain ⟨na, nc, Fn, e2, o2, n2, r2, c2⟩ := CP.out
              simp only [Value.slice.injEq] at e e2
              obtain ⟨rfl, rfl, rfl⟩ := e
              obtain ⟨rfl, rfl, rfl⟩ := e2
              have FIN := Lib.hid (own_pair (k := 2) (o1.kept (fun b hb => BN.out.block b (r1 b hb).2)) n1 r1 c1 o2 n2 r2 c2 IR0.out BN.out.size)
              have hr5 : w.heap.size + 1 + 1 < w4.heap.size := (Array.getElem?_eq_some_iff.1 KR4.out).1
              go_wp2
              rw [EI.out, XF.out, XS.out]
              exact vec_ret0S rfl rfl rfl rfl (row_set KR.out) ⟨_, rfl, (FIN.out.row (show w.heap.size + 1 + 1 < w4.heap.size from hr5)).wide (show w.heap.size ≤ w4.heap.size by omega) (row_size _ _ _), below_row H.out.1 (show w.heap.size ≤ w.heap.size + 1 + 1 by omega) _⟩
            · have XX := Lib.hid (ariV_no (oi := some 4) (a := VA) (b := VB) hp)
              obtain ⟨R, hR⟩ : ∃ R, prbB true VA VB nonNumB = R := ⟨_, rfl⟩
              rw [hR] at hp XS ⊢
              have hRb : (R.toList == []) = false := by have h := str_not hp; rw [ByteArray.toList_eq ⟨#[]⟩] at h; exact h
              clear hp hR
              obtain ⟨z0, z1, z2, z3, z4, z5, z6, z7⟩ := vec8 KR.out
              obtain ⟨f0, f1, f2, f3, f4, f5, f6, f7⟩ := free8 KR.out
              go_wp2
              rw [EI.out, XX.out, XS.out]
              exact vec_endS rfl rfl rfl rfl KR.out (zeroS _ w _ (put8_below B4.out (show w.heap.size ≤ w.heap.size + 1 + 1 by omega)))
          ·
            by_cases h_5 : op = opA 5
            · have EI := Lib.hid (idx_5 h_0 h_1 h_2 h_3 h_4 h_5)
              obtain rfl : op = ⟨#[37, 37]⟩ := h_5
              clear h_0 h_1 h_2 h_3 h_4
              have lk := lookA_5 MP.out
              have XS := Lib.hid (show ariS (some 5) VA VB = prbB true VA VB nonNumB from ariS_prb (some 5) VA VB)
              go_wp2_with fail
              refine (PB.out w2 B2.out true).mono ?_
              rintro e w4 ⟨rfl, b⟩
              have B4 := Lib.hid (below_then B2.out b)
              have KA := Lib.hid (blk_below b KA.out)
              have KB := Lib.hid (blk_below b KB.out)
              have KR := Lib.hid (blk_below b KR.out)
              clear b ka0 ka1 ka2 ka3 ka4 ka5 ka6 ka7 kb0 kb1 kb2 kb3 kb4 kb5 kb6 kb7 lk
              by_cases hp : prbB true VA VB nonNumB = ⟨#[]⟩
              · have OK := Lib.hid (prb_ok (u := nonNumB) (by decide) hp)
                rw [hp]
                rw [hp] at XS
                obtain ⟨hv, hcc, hnn⟩ := OK.out
                have XV := Lib.hid (ari_yes (i := 5) hv hcc hnn)
                have EA := Lib.hid (show itL VA = items0.length by rw [← hVA]; rfl)
                have EB := Lib.hid (show itL VB = items1.length by rw [← hVB]; rfl)
                have ma : items0.length ≤ 40 := by rw [← EA.out]; exact itL_le hv.1 hcc.1
                have mb : items1.length ≤ 40 := by rw [← EB.out]; exact itL_le hv.2 hcc.2
                have XA : ∀ i, i < items0.length → NumIt (items0.getD i noI) := fun i hi => num_at (by rw [hVA]; exact hv.1) (by rw [hVA]; exact hcc.1) hi
                have XB : ∀ i, i < items1.length → NumIt (items1.getD i noI) := fun i hi => num_at (by rw [hVB]; exact hv.2) (by rw [hVB]; exact hcc.2) hi
                have FA : FlatOk k0 items0 parts0.length names0 cls0 lev0 code0 env0 := by have h := hv.1; rw [← hVA] at h; exact h.1.flat
                have FB : FlatOk k1 items1 parts1.length names1 cls1 lev1 code1 env1 := by have h := hv.2; rw [← hVB] at h; exact h.1.flat
                have CRI := Lib.hid (fun (W : World) (hH : HeldC w W ([(w.heap.size, 31, #[.int .i64 k0, .slice ai0 items0.length ci0, .slice ap0 parts0.length cp0, .slice an0 names0.length cn0, .slice ac0 cls0.length cc0, .slice al0 lev0.length cl0, .int .i64 code0, .int .i64 env0]), ((w.heap.size + 1), 31, #[.int .i64 k1, .slice ai1 items1.length ci1, .slice ap1 parts1.length cp1, .slice an1 names1.length cn1, .slice ac1 cls1.length cc1, .slice al1 lev1.length cl1, .int .i64 code1, .int .i64 env1])])) => implRecIts 130 #[] remI items0 items1 ai0 ai1 ci0 ci1 lo hi items0.length items1.length W (hI0.below hH.1 hhi) (hI1.below hH.1 hhi) (Nat.le_trans hhi hH.1.size) rfl rfl ma mb (by kernel_rfl)
                  (fun i j W' hi' hj' hb' => implRem (items0.getD i noI) (items1.getD j noI) W' (XA i hi').t0 (XB j hj').t0))
                have CRN := Lib.hid (fun (W : World) (hH : HeldC w W ([(w.heap.size, 31, #[.int .i64 k0, .slice ai0 items0.length ci0, .slice ap0 parts0.length cp0, .slice an0 names0.length cn0, .slice ac0 cls0.length cc0, .slice al0 lev0.length cl0, .int .i64 code0, .int .i64 env0]), ((w.heap.size + 1), 31, #[.int .i64 k1, .slice ai1 items1.length ci1, .slice ap1 parts1.length cp1, .slice an1 names1.length cn1, .slice ac1 cls1.length cc1, .slice al1 lev1.length cl1, .int .i64 code1, .int .i64 env1])])) => implRecNames k0 names0 ai0 ap0 an0 ac0 al0 items0.length ci0 parts0.length cp0 cn0 cls0.length cc0 lev0.length cl0 code0 env0 k1 names1 ai1 ap1 an1 ac1 al1 items1.length ci1 parts1.length cp1 cn1 cls1.length cc1 lev1.length cl1 code1 env1 lo hi W (hN0.below hH.1 hhi) (hN1.below hH.1 hhi) (Nat.le_trans hhi hH.1.size) ln0 ln1 li0 li1)
                go_upto_region 5 with (fail)
                have KR4 := KR
                have H := Lib.hid (show HeldC w w4 ([(w.heap.size, 31, #[.int .i64 k0, .slice ai0 items0.length ci0, .slice ap0 parts0.length cp0, .slice an0 names0.length cn0, .slice ac0 cls0.length cc0, .slice al0 lev0.length cl0, .int .i64 code0, .int .i64 env0]), ((w.heap.size + 1), 31, #[.int .i64 k1, .slice ai1 items1.length ci1, .slice ap1 parts1.length cp1, .slice an1 names1.length cn1, .slice ac1 cls1.length cc1, .slice al1 lev1.length cl1, .int .i64 code1, .int .i64 env1])]) from heldC_cons (heldC_cons ⟨B4.out, (fun _ h => by cases h)⟩ KB.out) KA.out)
                refine run_region (ops := (opsOf Try.f24 5)) (S := fun w' => HeldC w w' ([(w.heap.size, 31, #[.int .i64 k0, .slice ai0 items0.length ci0, .slice ap0 parts0.length cp0, .slice an0 names0.length cn0, .slice ac0 cls0.length cc0, .slice al0 lev0.length cl0, .int .i64 code0, .int .i64 env0]), ((w.heap.size + 1), 31, #[.int .i64 k1, .slice ai1 items1.length ci1, .slice ap1 parts1.length cp1, .slice an1 names1.length cn1, .slice ac1 cls1.length cc1, .slice al1 lev1.length cl1, .int .i64 code1, .int .i64 env1])])) [(0, true), (1, true), (2, true), (3, true), (4, true), (6, true), (7, true), (5, false), (8, false), (9, false), (10, false), (11, true)] (by kernel_rfl) (by kernel_rfl) (by kernel_rfl) (by kernel_rfl) (by kernel_rfl) (fun _ _ _ _ _ h => h) (heldC_drew H.out) ?_
                have H := Lib.hid (heldC_drew H.out)
                have KR := Lib.hid (blk_below (below_drew' (Below.refl _ _)) KR.out)
                refine runC_partV (b := w.heap.size) (by kernel_rfl) (show opAt (opsOf Try.f24 5) 0 = some (some 25, .fieldAddr 31 (.tmp 4) 1, none) from by kernel_rfl) (by kernel_rfl) (by kernel_rfl) (by kernel_rfl) ?_
                refine runC_cell (b := w.heap.size) (j := 1) (v := .slice ai0 items0.length ci0) load_its (show opAt (opsOf Try.f24 5) 1 = some (some 26, .load 28 (.tmp 25), none) from by kernel_rfl) (by kernel_rfl) (by kernel_rfl) (by kernel_rfl) (List.Mem.head _) rfl ?_
                refine runC_partV (b := (w.heap.size + 1)) (by kernel_rfl) (show opAt (opsOf Try.f24 5) 2 = some (some 27, .fieldAddr 31 (.tmp 5) 1, none) from by kernel_rfl) (by kernel_rfl) (by kernel_rfl) (by kernel_rfl) ?_
                refine runC_cell (b := (w.heap.size + 1)) (j := 1) (v := .slice ai1 items1.length ci1) load_its (show opAt (opsOf Try.f24 5) 3 = some (some 28, .load 28 (.tmp 27), none) from by kernel_rfl) (by kernel_rfl) (by kernel_rfl) (by kernel_rfl) (List.Mem.tail _ (List.Mem.head _)) rfl ?_
                refine run_mov (v := .func (.func 130) #[] #[]) (show opAt (opsOf Try.f24 5) 4 = some (some 29, .move (.tmp 8), none) from by kernel_rfl) (by kernel_rfl) (by kernel_rfl) (by kernel_rfl) ?_
                refine runC_vec (b := w.heap.size) (show opAt (opsOf Try.f24 5) 6 = some (some 31, .load 31 (.tmp 4), none) from by kernel_rfl) (by kernel_rfl) (by kernel_rfl) (by kernel_rfl) (List.Mem.head _) ?_
                refine runC_vec (b := (w.heap.size + 1)) (show opAt (opsOf Try.f24 5) 7 = some (some 32, .load 31 (.tmp 5), none) from by kernel_rfl) (by kernel_rfl) (by kernel_rfl) (by kernel_rfl) (List.Mem.tail _ (List.Mem.head _)) ?_
                refine run_call (args := [.slice ai0 items0.length ci0, .slice ai1 items1.length ci1, .func (.func 130) #[] #[]]) (show opAt (opsOf Try.f24 5) 5 = some (some 30, .call { callee := .value (.func 61), args := [(.tmp 26), (.tmp 28), (.tmp 29)].toArray, argTypes := [28, 28, 70].toArray }, none) from by kernel_rfl) (by kernel_rfl) (by kernel_rfl) (by kernel_rfl) (by kernel_rfl) ?_
                refine (CRI.out _ H.out).mono ?_
                rintro en rw1 ⟨vi, rfl, hit⟩
                obtain ⟨si, ni, ci, rfl⟩ := hit.form
                have OI := Lib.hid (own_of_its hit.row)
                have IR0 := Lib.hid hit.below.size
                have KR := Lib.hid (blk_below hit.below KR.out)
                refine ⟨_, rfl, heldC_call H.out hit.below, ?_⟩
                have H := Lib.hid (heldC_call H.out hit.below)
                clear hit
                refine run_call (args := [.agg #[.int .i64 k0, .slice ai0 items0.length ci0, .slice ap0 parts0.length cp0, .slice an0 names0.length cn0, .slice ac0 cls0.length cc0, .slice al0 lev0.length cl0, .int .i64 code0, .int .i64 env0], .agg #[.int .i64 k1, .slice ai1 items1.length ci1, .slice ap1 parts1.length cp1, .slice an1 names1.length cn1, .slice ac1 cls1.length cc1, .slice al1 lev1.length cl1, .int .i64 code1, .int .i64 env1]]) (show opAt (opsOf Try.f24 5) 8 = some (some 33, .call { callee := .value (.func 62), args := [(.tmp 31), (.tmp 32)].toArray, argTypes := [31, 31].toArray }, none) from by kernel_rfl) (by kernel_rfl) (by kernel_rfl) (by kernel_rfl) (by kernel_rfl) ?_
                refine (CRN.out _ H.out).mono ?_
                rintro en rw2 ⟨⟨vn, rfl, hcp⟩, hb⟩
                have CP := Lib.hid hcp
                obtain ⟨sn, nn, cn, rfl⟩ : ∃ s n c, vn = .slice s n c := by obtain ⟨s, c, F, e, _⟩ := hcp; exact ⟨s, _, c, e⟩
                refine ⟨_, rfl, heldC_call H.out hb, ?_⟩
                have BN := Lib.hid hb
                have KR := Lib.hid (blk_below hb KR.out)
                have H := Lib.hid (heldC_call H.out hb)
                clear hcp hb
                refine run_bldK (k := 2) (sa := si) (n := ni) (m := ci) (sb := sn) (n' := nn) (m' := cn) (show opAt (opsOf Try.f24 5) 9 = some (some 34, .build 31 #[(0, .const (.int .i64 2)), (1, .tmp 30), (3, .tmp 33)], none) from by kernel_rfl) (by kernel_rfl) (by kernel_rfl) (by kernel_rfl) (by kernel_rfl) H.out ?_
                refine run_store (w' := rw2.setRow (w.heap.size + 1 + 1) #[.int .i64 2, .slice si ni ci, .slice none 0 0, .slice sn nn cn, .slice none 0 0, .slice none 0 0, .int .i64 0, .int .i64 0]) (show opAt (opsOf Try.f24 5) 10 = some (none, .store 31 (.tmp 6) (.tmp 34), none) from by kernel_rfl) (by kernel_rfl) (by kernel_rfl) (by kernel_rfl) (store_vec8 KR.out (by simp [Value.oneCell'])) ⟨below_row H.out.1 (show w.heap.size ≤ w.heap.size + 1 + 1 by omega) _, fun q hq => row_old (H.out.2 q hq) (by
                  rcases List.mem_cons.1 hq with rfl | hq
                  · simp only; omega
                  · obtain rfl := List.mem_singleton.1 hq
                    simp only; omega)⟩ ?_
                refine run_asg (v := .string ⟨#[]⟩) (show opAt (opsOf Try.f24 5) 11 = some (some 7, .assign (.const (.string ⟨#[]⟩)), none) from by kernel_rfl) (by kernel_rfl) (by kernel_rfl) (by kernel_rfl) ?_
                refine run_done ?_
                simp only [putAll, Act.put, List.setIfInBounds_toArray, List.set_cons_zero, List.set_cons_succ]
                have XF := Lib.hid (show ariV (some 5) VA VB = mkN 2 (itF (fun i => remI (items0.getD (i % items0.length) noI) (items1.getD (i % items1.length) noI)) (recN items0.length items1.length)) (namesR (recN items0.length items1.length) names0 names1) from by
                  have la : lenV k0 items0.length parts0.length = items0.length := len_counts (by rw [hVA]; exact hv.1) (by rw [hVA]; exact hcc.1)
                  have lb : lenV k1 items1.length parts1.length = items1.length := len_counts (by rw [hVB]; exact hv.2) (by rw [hVB]; exact hcc.2)
                  have hN : (lgcN VA VB).toNat = recN items0.length items1.length := by rw [← EA.out, ← EB.out]; exact size_rec hnn
                  have nA : namesV VA = names0 := by rw [← hVA]; rfl
                  have nB : namesV VB = names1 := by rw [← hVB]; rfl
                  have iA : itemsV VA = items0 := by rw [← hVA]; rfl
                  have iB : itemsV VB = items1 := by rw [← hVB]; rfl
                  rw [XV.out.1, hN, EA.out, EB.out, nA, nB, iA, iB, names_same (by have := FA.h_names; rw [la] at this; exact this) (by have := FB.h_names; rw [lb] at this; exact this)]
                  rfl)
                obtain ⟨a', c', Fi, e, o1, n1, r1, c1⟩ := OI.out
                obtain ⟨na, nc, Fn, e2, o2, n2, r2, c2⟩ := CP.out
                simp only [Value.slice.injEq] at e e2
                obtain ⟨rfl, rfl, rfl⟩ := e
                obtain ⟨rfl, rfl, rfl⟩ := e2
                have FIN := Lib.hid (own_pair (k := 2) (o1.kept (fun b hb => BN.out.block b (r1 b hb).2)) n1 r1 c1 o2 n2 r2 c2 IR0.out BN.out.size)
                have hr5 : w.heap.size + 1 + 1 < w4.heap.size := (Array.getElem?_eq_some_iff.1 KR4.out).1
                go_wp2
                rw [EI.out, XF.out, XS.out]
                exact vec_ret0S rfl rfl rfl rfl (row_set KR.out) ⟨_, rfl, (FIN.out.row (show w.heap.size + 1 + 1 < w4.heap.size from hr5)).wide (show w.heap.size ≤ w4.heap.size by omega) (row_size _ _ _), below_row H.out.1 (show w.heap.size ≤ w.heap.size + 1 + 1 by omega) _⟩
              · have XX := Lib.hid (ariV_no (oi := some 5) (a := VA) (b := VB) hp)
                obtain ⟨R, hR⟩ : ∃ R, prbB true VA VB nonNumB = R := ⟨_, rfl⟩
                rw [hR] at hp XS ⊢
                have hRb : (R.toList == []) = false := by have h := str_not hp; rw [ByteArray.toList_eq ⟨#[]⟩] at h; exact h
                clear hp hR
                obtain ⟨z0, z1, z2, z3, z4, z5, z6, z7⟩ := vec8 KR.out
                obtain ⟨f0, f1, f2, f3, f4, f5, f6, f7⟩ := free8 KR.out
                go_wp2
                rw [EI.out, XX.out, XS.out]
                exact vec_endS rfl rfl rfl rfl KR.out (zeroS _ w _ (put8_below B4.out (show w.heap.size ≤ w.heap.size + 1 + 1 by omega)))
            ·
              by_cases h_6 : op = opA 6
              · have EI := Lib.hid (idx_6 h_0 h_1 h_2 h_3 h_4 h_5 h_6)
                obtain rfl : op = ⟨#[37, 47, 37]⟩ := h_6
                clear h_0 h_1 h_2 h_3 h_4 h_5
                have lk := lookA_6 MP.out
                have XS := Lib.hid (show ariS (some 6) VA VB = prbB true VA VB nonNumB from ariS_prb (some 6) VA VB)
                go_wp2_with fail
                refine (PB.out w2 B2.out true).mono ?_
                rintro e w4 ⟨rfl, b⟩
                have B4 := Lib.hid (below_then B2.out b)
                have KA := Lib.hid (blk_below b KA.out)
                have KB := Lib.hid (blk_below b KB.out)
                have KR := Lib.hid (blk_below b KR.out)
                clear b ka0 ka1 ka2 ka3 ka4 ka5 ka6 ka7 kb0 kb1 kb2 kb3 kb4 kb5 kb6 kb7 lk
                by_cases hp : prbB true VA VB nonNumB = ⟨#[]⟩
                · have OK := Lib.hid (prb_ok (u := nonNumB) (by decide) hp)
                  rw [hp]
                  rw [hp] at XS
                  obtain ⟨hv, hcc, hnn⟩ := OK.out
                  have XV := Lib.hid (ari_yes (i := 6) hv hcc hnn)
                  have EA := Lib.hid (show itL VA = items0.length by rw [← hVA]; rfl)
                  have EB := Lib.hid (show itL VB = items1.length by rw [← hVB]; rfl)
                  have ma : items0.length ≤ 40 := by rw [← EA.out]; exact itL_le hv.1 hcc.1
                  have mb : items1.length ≤ 40 := by rw [← EB.out]; exact itL_le hv.2 hcc.2
                  have XA : ∀ i, i < items0.length → NumIt (items0.getD i noI) := fun i hi => num_at (by rw [hVA]; exact hv.1) (by rw [hVA]; exact hcc.1) hi
                  have XB : ∀ i, i < items1.length → NumIt (items1.getD i noI) := fun i hi => num_at (by rw [hVB]; exact hv.2) (by rw [hVB]; exact hcc.2) hi
                  have FA : FlatOk k0 items0 parts0.length names0 cls0 lev0 code0 env0 := by have h := hv.1; rw [← hVA] at h; exact h.1.flat
                  have FB : FlatOk k1 items1 parts1.length names1 cls1 lev1 code1 env1 := by have h := hv.2; rw [← hVB] at h; exact h.1.flat
                  have CRI := Lib.hid (fun (W : World) (hH : HeldC w W ([(w.heap.size, 31, #[.int .i64 k0, .slice ai0 items0.length ci0, .slice ap0 parts0.length cp0, .slice an0 names0.length cn0, .slice ac0 cls0.length cc0, .slice al0 lev0.length cl0, .int .i64 code0, .int .i64 env0]), ((w.heap.size + 1), 31, #[.int .i64 k1, .slice ai1 items1.length ci1, .slice ap1 parts1.length cp1, .slice an1 names1.length cn1, .slice ac1 cls1.length cc1, .slice al1 lev1.length cl1, .int .i64 code1, .int .i64 env1])])) => implRecIts 131 #[] quoI items0 items1 ai0 ai1 ci0 ci1 lo hi items0.length items1.length W (hI0.below hH.1 hhi) (hI1.below hH.1 hhi) (Nat.le_trans hhi hH.1.size) rfl rfl ma mb (by kernel_rfl)
                    (fun i j W' hi' hj' hb' => implQuo (items0.getD i noI) (items1.getD j noI) W' (XA i hi').t0 (XB j hj').t0))
                  have CRN := Lib.hid (fun (W : World) (hH : HeldC w W ([(w.heap.size, 31, #[.int .i64 k0, .slice ai0 items0.length ci0, .slice ap0 parts0.length cp0, .slice an0 names0.length cn0, .slice ac0 cls0.length cc0, .slice al0 lev0.length cl0, .int .i64 code0, .int .i64 env0]), ((w.heap.size + 1), 31, #[.int .i64 k1, .slice ai1 items1.length ci1, .slice ap1 parts1.length cp1, .slice an1 names1.length cn1, .slice ac1 cls1.length cc1, .slice al1 lev1.length cl1, .int .i64 code1, .int .i64 env1])])) => implRecNames k0 names0 ai0 ap0 an0 ac0 al0 items0.length ci0 parts0.length cp0 cn0 cls0.length cc0 lev0.length cl0 code0 env0 k1 names1 ai1 ap1 an1 ac1 al1 items1.length ci1 parts1.length cp1 cn1 cls1.length cc1 lev1.length cl1 code1 env1 lo hi W (hN0.below hH.1 hhi) (hN1.below hH.1 hhi) (Nat.le_trans hhi hH.1.size) ln0 ln1 li0 li1)
                  go_upto_region 5 with (fail)
                  have KR4 := KR
                  have H := Lib.hid (show HeldC w w4 ([(w.heap.size, 31, #[.int .i64 k0, .slice ai0 items0.length ci0, .slice ap0 parts0.length cp0, .slice an0 names0.length cn0, .slice ac0 cls0.length cc0, .slice al0 lev0.length cl0, .int .i64 code0, .int .i64 env0]), ((w.heap.size + 1), 31, #[.int .i64 k1, .slice ai1 items1.length ci1, .slice ap1 parts1.length cp1, .slice an1 names1.length cn1, .slice ac1 cls1.length cc1, .slice al1 lev1.length cl1, .int .i64 code1, .int .i64 env1])]) from heldC_cons (heldC_cons ⟨B4.out, (fun _ h => by cases h)⟩ KB.out) KA.out)
                  refine run_region (ops := (opsOf Try.f24 5)) (S := fun w' => HeldC w w' ([(w.heap.size, 31, #[.int .i64 k0, .slice ai0 items0.length ci0, .slice ap0 parts0.length cp0, .slice an0 names0.length cn0, .slice ac0 cls0.length cc0, .slice al0 lev0.length cl0, .int .i64 code0, .int .i64 env0]), ((w.heap.size + 1), 31, #[.int .i64 k1, .slice ai1 items1.length ci1, .slice ap1 parts1.length cp1, .slice an1 names1.length cn1, .slice ac1 cls1.length cc1, .slice al1 lev1.length cl1, .int .i64 code1, .int .i64 env1])])) [(0, true), (1, true), (2, true), (3, true), (4, true), (6, true), (7, true), (5, false), (8, false), (9, false), (10, false), (11, true)] (by kernel_rfl) (by kernel_rfl) (by kernel_rfl) (by kernel_rfl) (by kernel_rfl) (fun _ _ _ _ _ h => h) (heldC_drew H.out) ?_
                  have H := Lib.hid (heldC_drew H.out)
                  have KR := Lib.hid (blk_below (below_drew' (Below.refl _ _)) KR.out)
                  refine runC_partV (b := w.heap.size) (by kernel_rfl) (show opAt (opsOf Try.f24 5) 0 = some (some 25, .fieldAddr 31 (.tmp 4) 1, none) from by kernel_rfl) (by kernel_rfl) (by kernel_rfl) (by kernel_rfl) ?_
                  refine runC_cell (b := w.heap.size) (j := 1) (v := .slice ai0 items0.length ci0) load_its (show opAt (opsOf Try.f24 5) 1 = some (some 26, .load 28 (.tmp 25), none) from by kernel_rfl) (by kernel_rfl) (by kernel_rfl) (by kernel_rfl) (List.Mem.head _) rfl ?_
                  refine runC_partV (b := (w.heap.size + 1)) (by kernel_rfl) (show opAt (opsOf Try.f24 5) 2 = some (some 27, .fieldAddr 31 (.tmp 5) 1, none) from by kernel_rfl) (by kernel_rfl) (by kernel_rfl) (by kernel_rfl) ?_
                  refine runC_cell (b := (w.heap.size + 1)) (j := 1) (v := .slice ai1 items1.length ci1) load_its (show opAt (opsOf Try.f24 5) 3 = some (some 28, .load 28 (.tmp 27), none) from by kernel_rfl) (by kernel_rfl) (by kernel_rfl) (by kernel_rfl) (List.Mem.tail _ (List.Mem.head _)) rfl ?_
                  refine run_mov (v := .func (.func 131) #[] #[]) (show opAt (opsOf Try.f24 5) 4 = some (some 29, .move (.tmp 8), none) from by kernel_rfl) (by kernel_rfl) (by kernel_rfl) (by kernel_rfl) ?_
                  refine runC_vec (b := w.heap.size) (show opAt (opsOf Try.f24 5) 6 = some (some 31, .load 31 (.tmp 4), none) from by kernel_rfl) (by kernel_rfl) (by kernel_rfl) (by kernel_rfl) (List.Mem.head _) ?_
                  refine runC_vec (b := (w.heap.size + 1)) (show opAt (opsOf Try.f24 5) 7 = some (some 32, .load 31 (.tmp 5), none) from by kernel_rfl) (by kernel_rfl) (by kernel_rfl) (by kernel_rfl) (List.Mem.tail _ (List.Mem.head _)) ?_
                  refine run_call (args := [.slice ai0 items0.length ci0, .slice ai1 items1.length ci1, .func (.func 131) #[] #[]]) (show opAt (opsOf Try.f24 5) 5 = some (some 30, .call { callee := .value (.func 61), args := [(.tmp 26), (.tmp 28), (.tmp 29)].toArray, argTypes := [28, 28, 70].toArray }, none) from by kernel_rfl) (by kernel_rfl) (by kernel_rfl) (by kernel_rfl) (by kernel_rfl) ?_
                  refine (CRI.out _ H.out).mono ?_
                  rintro en rw1 ⟨vi, rfl, hit⟩
                  obtain ⟨si, ni, ci, rfl⟩ := hit.form
                  have OI := Lib.hid (own_of_its hit.row)
                  have IR0 := Lib.hid hit.below.size
                  have KR := Lib.hid (blk_below hit.below KR.out)
                  refine ⟨_, rfl, heldC_call H.out hit.below, ?_⟩
                  have H := Lib.hid (heldC_call H.out hit.below)
                  clear hit
                  refine run_call (args := [.agg #[.int .i64 k0, .slice ai0 items0.length ci0, .slice ap0 parts0.length cp0, .slice an0 names0.length cn0, .slice ac0 cls0.length cc0, .slice al0 lev0.length cl0, .int .i64 code0, .int .i64 env0], .agg #[.int .i64 k1, .slice ai1 items1.length ci1, .slice ap1 parts1.length cp1, .slice an1 names1.length cn1, .slice ac1 cls1.length cc1, .slice al1 lev1.length cl1, .int .i64 code1, .int .i64 env1]]) (show opAt (opsOf Try.f24 5) 8 = some (some 33, .call { callee := .value (.func 62), args := [(.tmp 31), (.tmp 32)].toArray, argTypes := [31, 31].toArray }, none) from by kernel_rfl) (by kernel_rfl) (by kernel_rfl) (by kernel_rfl) (by kernel_rfl) ?_
                  refine (CRN.out _ H.out).mono ?_
                  rintro en rw2 ⟨⟨vn, rfl, hcp⟩, hb⟩
                  have CP := Lib.hid hcp
                  obtain ⟨sn, nn, cn, rfl⟩ : ∃ s n c, vn = .slice s n c := by obtain ⟨s, c, F, e, _⟩ := hcp; exact ⟨s, _, c, e⟩
                  refine ⟨_, rfl, heldC_call H.out hb, ?_⟩
                  have BN := Lib.hid hb
                  have KR := Lib.hid (blk_below hb KR.out)
                  have H := Lib.hid (heldC_call H.out hb)
                  clear hcp hb
                  refine run_bldK (k := 2) (sa := si) (n := ni) (m := ci) (sb := sn) (n' := nn) (m' := cn) (show opAt (opsOf Try.f24 5) 9 = some (some 34, .build 31 #[(0, .const (.int .i64 2)), (1, .tmp 30), (3, .tmp 33)], none) from by kernel_rfl) (by kernel_rfl) (by kernel_rfl) (by kernel_rfl) (by kernel_rfl) H.out ?_
                  refine run_store (w' := rw2.setRow (w.heap.size + 1 + 1) #[.int .i64 2, .slice si ni ci, .slice none 0 0, .slice sn nn cn, .slice none 0 0, .slice none 0 0, .int .i64 0, .int .i64 0]) (show opAt (opsOf Try.f24 5) 10 = some (none, .store 31 (.tmp 6) (.tmp 34), none) from by kernel_rfl) (by kernel_rfl) (by kernel_rfl) (by kernel_rfl) (store_vec8 KR.out (by simp [Value.oneCell'])) ⟨below_row H.out.1 (show w.heap.size ≤ w.heap.size + 1 + 1 by omega) _, fun q hq => row_old (H.out.2 q hq) (by
                    rcases List.mem_cons.1 hq with rfl | hq
                    · simp only; omega
                    · obtain rfl := List.mem_singleton.1 hq
                      simp only; omega)⟩ ?_
                  refine run_asg (v := .string ⟨#[]⟩) (show opAt (opsOf Try.f24 5) 11 = some (some 7, .assign (.const (.string ⟨#[]⟩)), none) from by kernel_rfl) (by kernel_rfl) (by kernel_rfl) (by kernel_rfl) ?_
                  refine run_done ?_
                  simp only [putAll, Act.put, List.setIfInBounds_toArray, List.set_cons_zero, List.set_cons_succ]
                  have XF := Lib.hid (show ariV (some 6) VA VB = mkN 2 (itF (fun i => quoI (items0.getD (i % items0.length) noI) (items1.getD (i % items1.length) noI)) (recN items0.length items1.length)) (namesR (recN items0.length items1.length) names0 names1) from by
                    have la : lenV k0 items0.length parts0.length = items0.length := len_counts (by rw [hVA]; exact hv.1) (by rw [hVA]; exact hcc.1)
                    have lb : lenV k1 items1.length parts1.length = items1.length := len_counts (by rw [hVB]; exact hv.2) (by rw [hVB]; exact hcc.2)
                    have hN : (lgcN VA VB).toNat = recN items0.length items1.length := by rw [← EA.out, ← EB.out]; exact size_rec hnn
                    have nA : namesV VA = names0 := by rw [← hVA]; rfl
                    have nB : namesV VB = names1 := by rw [← hVB]; rfl
                    have iA : itemsV VA = items0 := by rw [← hVA]; rfl
                    have iB : itemsV VB = items1 := by rw [← hVB]; rfl
                    rw [XV.out.1, hN, EA.out, EB.out, nA, nB, iA, iB, names_same (by have := FA.h_names; rw [la] at this; exact this) (by have := FB.h_names; rw [lb] at this; exact this)]
                    rfl)
                  obtain ⟨a', c', Fi, e, o1, n1, r1, c1⟩ := OI.out
                  obtain ⟨na, nc, Fn, e2, o2, n2, r2, c2⟩ := CP.out
                  simp only [Value.slice.injEq] at e e2
                  obtain ⟨rfl, rfl, rfl⟩ := e
                  obtain ⟨rfl, rfl, rfl⟩ := e2
                  have FIN := Lib.hid (own_pair (k := 2) (o1.kept (fun b hb => BN.out.block b (r1 b hb).2)) n1 r1 c1 o2 n2 r2 c2 IR0.out BN.out.size)
                  have hr5 : w.heap.size + 1 + 1 < w4.heap.size := (Array.getElem?_eq_some_iff.1 KR4.out).1
                  go_wp2
                  rw [EI.out, XF.out, XS.out]
                  exact vec_ret0S rfl rfl rfl rfl (row_set KR.out) ⟨_, rfl, (FIN.out.row (show w.heap.size + 1 + 1 < w4.heap.size from hr5)).wide (show w.heap.size ≤ w4.heap.size by omega) (row_size _ _ _), below_row H.out.1 (show w.heap.size ≤ w.heap.size + 1 + 1 by omega) _⟩
                · have XX := Lib.hid (ariV_no (oi := some 6) (a := VA) (b := VB) hp)
                  obtain ⟨R, hR⟩ : ∃ R, prbB true VA VB nonNumB = R := ⟨_, rfl⟩
                  rw [hR] at hp XS ⊢
                  have hRb : (R.toList == []) = false := by have h := str_not hp; rw [ByteArray.toList_eq ⟨#[]⟩] at h; exact h
                  clear hp hR
                  obtain ⟨z0, z1, z2, z3, z4, z5, z6, z7⟩ := vec8 KR.out
                  obtain ⟨f0, f1, f2, f3, f4, f5, f6, f7⟩ := free8 KR.out
                  go_wp2
                  rw [EI.out, XX.out, XS.out]
                  exact vec_endS rfl rfl rfl rfl KR.out (zeroS _ w _ (put8_below B4.out (show w.heap.size ≤ w.heap.size + 1 + 1 by omega)))
              ·
                have EI := Lib.hid (idx_no h_0 h_1 h_2 h_3 h_4 h_5 h_6)
                have f0 : (op == (⟨#[43]⟩ : ByteArray)) = false := bytes_ne h_0
                have f1 : (op == (⟨#[45]⟩ : ByteArray)) = false := bytes_ne h_1
                have f2 : (op == (⟨#[42]⟩ : ByteArray)) = false := bytes_ne h_2
                have f3 : (op == (⟨#[47]⟩ : ByteArray)) = false := bytes_ne h_3
                have f4 : (op == (⟨#[94]⟩ : ByteArray)) = false := bytes_ne h_4
                have f5 : (op == (⟨#[37, 37]⟩ : ByteArray)) = false := bytes_ne h_5
                have f6 : (op == (⟨#[37, 47, 37]⟩ : ByteArray)) = false := bytes_ne h_6
                have lk := run_look_no (P := Try.prog) (s := op) (z := .nilFunc) Try.underlying86 Try.underlying9 MP.out (by simp [ariTab, Instr.findNow, Instr.sameNow, f0, f1, f2, f3, f4, f5, f6]) (by kernel_rfl)
                clear f0 f1 f2 f3 f4 f5 f6 h_0 h_1 h_2 h_3 h_4 h_5 h_6
                have XS := Lib.hid (show ariS none VA VB = prbB false VA VB nonNumB from ariS_prb none VA VB)
                have hp : prbB false VA VB nonNumB ≠ ⟨#[]⟩ := by
                  unfold prbB
                  cases bB (ValidV VA ∧ ValidV VB)
                  · exact (by decide : badB ≠ ⟨#[]⟩)
                  · exact (by decide : unkB ≠ ⟨#[]⟩)
                have XX := Lib.hid (ariV_no (oi := none) (a := VA) (b := VB) hp)
                go_wp2_with fail
                refine (PB.out w2 B2.out false).mono ?_
                rintro e w4 ⟨rfl, b⟩
                have B4 := Lib.hid (below_then B2.out b)
                have KR := Lib.hid (blk_below b KR.out)
                clear b ka0 ka1 ka2 ka3 ka4 ka5 ka6 ka7 kb0 kb1 kb2 kb3 kb4 kb5 kb6 kb7 lk
                obtain ⟨R, hR⟩ : ∃ R, prbB false VA VB nonNumB = R := ⟨_, rfl⟩
                rw [hR] at hp XS ⊢
                have hRb : (R.toList == []) = false := by have h := str_not hp; rw [ByteArray.toList_eq ⟨#[]⟩] at h; exact h
                clear hp hR
                obtain ⟨z0, z1, z2, z3, z4, z5, z6, z7⟩ := vec8 KR.out
                obtain ⟨f0, f1, f2, f3, f4, f5, f6, f7⟩ := free8 KR.out
                go_wp2
                rw [EI.out, XX.out, XS.out]
                exact vec_endS rfl rfl rfl rfl KR.out (zeroS _ w _ (put8_below B4.out (show w.heap.size ≤ w.heap.size + 1 + 1 by omega)))
end Go.Proofs.Ytlnjjjoeblopeaa

/- LogicOf of the reference. -/
namespace Go.Proofs.Ytlnjjjoeblopeaa
open Go.RowKit
set_option maxRecDepth 100000
set_option linter.unusedVariables false

set_option maxHeartbeats 4000000 in
theorem specLogicOf (d0 d1 : Nat) (a b : Vec) (op : ByteArray) (va vb : Value) (lo hi : Nat) (w : World) (h0 : VecAt lo hi w d0 a va) (h1 : VecAt lo hi w d1 b vb) (hhi : hi ≤ w.heap.size) (hsm0 : Small d0 a) (hsm1 : Small d1 b) :
    Calls Try.prog 15 #[.string op, va, vb] w (ResVS 1 (lgcV op a b) (lgcS op a b) w) := by
  have CA := Lib.hid (fun (w1 : World) (hb : Below w.heap.size w w1) => specIsVector d0 a va lo hi w1 (h0.below hb hhi) (Nat.le_trans hhi hb.size) hsm0)
  have CB := Lib.hid (fun (w1 : World) (hb : Below w.heap.size w w1) => specIsVector d1 b vb lo hi w1 (h1.below hb hhi) (Nat.le_trans hhi hb.size) hsm1)
  have SA := Lib.hid (fun (w1 : World) (hb : Below w.heap.size w w1) (hv : ValidV a) => specLogU d0 a va lo hi w1 (h0.below hb hhi) (Nat.le_trans hhi hb.size) hsm0 hv)
  have SB := Lib.hid (fun (w1 : World) (hb : Below w.heap.size w w1) (hv : ValidV b) => specLogU d1 b vb lo hi w1 (h1.below hb hhi) (Nat.le_trans hhi hb.size) hsm1 hv)
  have BD := Lib.hid (fun W => specBad W)
  obtain ⟨VA, hVA⟩ : ∃ V, a = V := ⟨_, rfl⟩
  obtain ⟨VB, hVB⟩ : ∃ V, b = V := ⟨_, rfl⟩
  rw [hVA] at CA SA ⊢
  rw [hVB] at CB SB ⊢
  have NA := Lib.hid (show namesV VA = namesV a by rw [hVA])
  have NB := Lib.hid (show namesV VB = namesV b by rw [hVB])
  obtain ⟨k0, items0, parts0, names0, cls0, lev0, code0, env0⟩ := a
  obtain ⟨d0', ai0, ci0, ap0, cp0, an0, cn0, ac0, cc0, al0, cl0, ed0, rfl, hI0, hN0, hC0, hL0, hP0⟩ := vecAt_open h0
  have ln0 : names0.length ≤ 1048576 := by subst ed0; exact hsm0.2.2.1
  have li0 : items0.length ≤ 1048576 := by subst ed0; exact hsm0.1
  have lp0 : parts0.length ≤ 1048576 := by subst ed0; exact hsm0.2.1
  obtain ⟨k1, items1, parts1, names1, cls1, lev1, code1, env1⟩ := b
  obtain ⟨d1', ai1, ci1, ap1, cp1, an1, cn1, ac1, cc1, al1, cl1, ed1, rfl, hI1, hN1, hC1, hL1, hP1⟩ := vecAt_open h1
  have ln1 : names1.length ≤ 1048576 := by subst ed1; exact hsm1.2.2.1
  have li1 : items1.length ≤ 1048576 := by subst ed1; exact hsm1.1
  have lp1 : parts1.length ≤ 1048576 := by subst ed1; exact hsm1.2.1
  have NA := Lib.hid (show namesV VA = names0 from NA.out)
  have NB := Lib.hid (show namesV VB = names1 from NB.out)
  have LA := Lib.hid (fun (h : ValidV VA) (hc : Counts VA) => (by rw [← hVA] at h hc ⊢; exact len_counts h hc : lenV k0 items0.length parts0.length = itL VA))
  have LB := Lib.hid (fun (h : ValidV VB) (hc : Counts VB) => (by rw [← hVB] at h hc ⊢; exact len_counts h hc : lenV k1 items1.length parts1.length = itL VB))
  have NM := Lib.hid (fun (N : Nat) (w1 : World) (hb : Below w.heap.size w w1) => specNames k0 names0 ai0 ap0 an0 ac0 al0 items0.length ci0 parts0.length cp0 cn0 cls0.length cc0 lev0.length cl0 code0 env0 k1 names1 ai1 ap1 an1 ac1 al1 items1.length ci1 parts1.length cp1 cn1 cls1.length cc1 lev1.length cl1 code1 env1 N lo hi w1 (hN0.below hb hhi) (hN1.below hb hhi) (Nat.le_trans hhi hb.size) ln0 ln1 li0 lp0 li1 lp1)
  clear h0 h1 hsm0 hsm1 hI0 hN0 hC0 hL0 hP0 hI1 hN1 hC1 hL1 hP1 ed0 ed1 hVA hVB li0 li1 lp0 lp1 ln0 ln1
  go_enter Try.func15, Try.ntmps15
  go_wp2_with fail
  obtain ⟨w1, hw1⟩ : ∃ W, ((w.alloc (.cells #[.int .i64 k0, .slice ai0 items0.length ci0, .slice ap0 parts0.length cp0, .slice an0 names0.length cn0, .slice ac0 cls0.length cc0, .slice al0 lev0.length cl0, .int .i64 code0, .int .i64 env0] 31)).alloc (.cells #[.int .i64 k1, .slice ai1 items1.length ci1, .slice ap1 parts1.length cp1, .slice an1 names1.length cn1, .slice ac1 cls1.length cc1, .slice al1 lev1.length cl1, .int .i64 code1, .int .i64 env1] 31)).alloc (.cells #[.int .i64 0, .slice none 0 0, .slice none 0 0, .slice none 0 0, .slice none 0 0, .slice none 0 0, .int .i64 0, .int .i64 0] 31) = W := ⟨_, rfl⟩
  have hsz1 : (w.alloc (.cells #[.int .i64 k0, .slice ai0 items0.length ci0, .slice ap0 parts0.length cp0, .slice an0 names0.length cn0, .slice ac0 cls0.length cc0, .slice al0 lev0.length cl0, .int .i64 code0, .int .i64 env0] 31)).heap.size = w.heap.size + 1 := by simp
  have hsz2 : ((w.alloc (.cells #[.int .i64 k0, .slice ai0 items0.length ci0, .slice ap0 parts0.length cp0, .slice an0 names0.length cn0, .slice ac0 cls0.length cc0, .slice al0 lev0.length cl0, .int .i64 code0, .int .i64 env0] 31)).alloc (.cells #[.int .i64 k1, .slice ai1 items1.length ci1, .slice ap1 parts1.length cp1, .slice an1 names1.length cn1, .slice ac1 cls1.length cc1, .slice al1 lev1.length cl1, .int .i64 code1, .int .i64 env1] 31)).heap.size = w.heap.size + 1 + 1 := by simp
  have B1 := Lib.hid (show Below w.heap.size w w1 from hw1 ▸ (below2 w _ _).alloc (by simp; omega) _)
  have KA := Lib.hid (show w1.heap[w.heap.size]? = some (.cells #[.int .i64 k0, .slice ai0 items0.length ci0, .slice ap0 parts0.length cp0, .slice an0 names0.length cn0, .slice ac0 cls0.length cc0, .slice al0 lev0.length cl0, .int .i64 code0, .int .i64 env0] 31 (0, 0)) from hw1 ▸ blk_old (blk_old (blk_new w _ rfl)))
  have KB := Lib.hid (show w1.heap[w.heap.size + 1]? = some (.cells #[.int .i64 k1, .slice ai1 items1.length ci1, .slice ap1 parts1.length cp1, .slice an1 names1.length cn1, .slice ac1 cls1.length cc1, .slice al1 lev1.length cl1, .int .i64 code1, .int .i64 env1] 31 (0, 0)) from hw1 ▸ blk_old (hsz1 ▸ blk_new (w.alloc (.cells #[.int .i64 k0, .slice ai0 items0.length ci0, .slice ap0 parts0.length cp0, .slice an0 names0.length cn0, .slice ac0 cls0.length cc0, .slice al0 lev0.length cl0, .int .i64 code0, .int .i64 env0] 31)) (.cells #[.int .i64 k1, .slice ai1 items1.length ci1, .slice ap1 parts1.length cp1, .slice an1 names1.length cn1, .slice ac1 cls1.length cc1, .slice al1 lev1.length cl1, .int .i64 code1, .int .i64 env1] 31) rfl))
  have KR := Lib.hid (show w1.heap[w.heap.size + 1 + 1]? = some (.cells #[.int .i64 0, .slice none 0 0, .slice none 0 0, .slice none 0 0, .slice none 0 0, .slice none 0 0, .int .i64 0, .int .i64 0] 31 (0, 0)) from hw1 ▸ hsz2 ▸ blk_new ((w.alloc (.cells #[.int .i64 k0, .slice ai0 items0.length ci0, .slice ap0 parts0.length cp0, .slice an0 names0.length cn0, .slice ac0 cls0.length cc0, .slice al0 lev0.length cl0, .int .i64 code0, .int .i64 env0] 31)).alloc (.cells #[.int .i64 k1, .slice ai1 items1.length ci1, .slice ap1 parts1.length cp1, .slice an1 names1.length cn1, .slice ac1 cls1.length cc1, .slice al1 lev1.length cl1, .int .i64 code1, .int .i64 env1] 31)) (.cells #[.int .i64 0, .slice none 0 0, .slice none 0 0, .slice none 0 0, .slice none 0 0, .slice none 0 0, .int .i64 0, .int .i64 0] 31) rfl)
  rw [hw1]
  clear hw1 hsz1 hsz2
  with_reducible refine (CA.out _ B1.out).mono ?_
  rintro e w2 ⟨rfl, b⟩
  have B2 := Lib.hid (below_then B1.out b)
  have KA := Lib.hid (blk_below b KA.out)
  have KB := Lib.hid (blk_below b KB.out)
  have KR := Lib.hid (blk_below b KR.out)
  clear b
  by_cases qa : ValidV VA
  · rw [bB_yes qa]
    obtain ⟨ka0, ka1, ka2, ka3, ka4, ka5, ka6, ka7⟩ := vec8 KA.out
    obtain ⟨kb0, kb1, kb2, kb3, kb4, kb5, kb6, kb7⟩ := vec8 KB.out
    go_wp2_with fail
    with_reducible refine (CB.out _ B2.out).mono ?_
    rintro e w3 ⟨rfl, b⟩
    have B3 := Lib.hid (below_then B2.out b)
    have KA := Lib.hid (blk_below b KA.out)
    have KB := Lib.hid (blk_below b KB.out)
    have KR := Lib.hid (blk_below b KR.out)
    clear b
    clear ka0 ka1 ka2 ka3 ka4 ka5 ka6 ka7 kb0 kb1 kb2 kb3 kb4 kb5 kb6 kb7
    by_cases qb : ValidV VB
    · rw [bB_yes qb]
      have QQ := Lib.hid (And.intro qa qb)
      have SA := Lib.hid (fun w1 hb => SA.out w1 hb qa)
      have SB := Lib.hid (fun w1 hb => SB.out w1 hb qb)
      have hm40 := cntL_le qa
      have hn40 := cntL_le qb
      clear qa qb
      obtain ⟨ka0, ka1, ka2, ka3, ka4, ka5, ka6, ka7⟩ := vec8 KA.out
      obtain ⟨kb0, kb1, kb2, kb3, kb4, kb5, kb6, kb7⟩ := vec8 KB.out
      go_wp2_with fail
      with_reducible refine (SA.out _ B3.out).mono ?_
      rintro e w4 ⟨sx, cx, rfl, hrx, b⟩
      have B4 := Lib.hid (below_then B3.out b)
      have KA := Lib.hid (blk_below b KA.out)
      have KB := Lib.hid (blk_below b KB.out)
      have KR := Lib.hid (blk_below b KR.out)
      have RX := Lib.hid hrx
      clear b hrx
      clear ka0 ka1 ka2 ka3 ka4 ka5 ka6 ka7 kb0 kb1 kb2 kb3 kb4 kb5 kb6 kb7
      obtain ⟨ka0, ka1, ka2, ka3, ka4, ka5, ka6, ka7⟩ := vec8 KA.out
      obtain ⟨kb0, kb1, kb2, kb3, kb4, kb5, kb6, kb7⟩ := vec8 KB.out
      go_wp2_with fail
      with_reducible refine (SB.out _ B4.out).mono ?_
      rintro e w5 ⟨sy, cy, rfl, hry, b⟩
      have B5 := Lib.hid (below_then B4.out b)
      have KA := Lib.hid (blk_below b KA.out)
      have KB := Lib.hid (blk_below b KB.out)
      have KR := Lib.hid (blk_below b KR.out)
      have RX := Lib.hid (fun hc => ownsRow_below (RX.out hc) b)
      have RY := Lib.hid hry
      clear b hry
      clear ka0 ka1 ka2 ka3 ka4 ka5 ka6 ka7 kb0 kb1 kb2 kb3 kb4 kb5 kb6 kb7
      obtain ⟨m, hm⟩ : ∃ m, cntL VA = m := ⟨_, rfl⟩
      obtain ⟨n, hn⟩ : ∃ n, cntL VB = n := ⟨_, rfl⟩
      rw [hm] at RX hm40 ⊢
      rw [hn] at RY hn40 ⊢
      have HM := Lib.hid hm
      have HN := Lib.hid hn
      clear hm hn
      have CZ := Lib.hid (fun W => specSize m n W (by omega) (by omega))
      have PZ := Lib.hid (fun h => sizeL_pos (m := m) (n := n) h)
      have Z40 := sizeL_le hm40 hn40
      obtain ⟨z, hz⟩ : ∃ z, sizeL m n = z := ⟨_, rfl⟩
      rw [hz] at CZ PZ Z40
      have HZ := Lib.hid hz
      clear hz
      go_wp2_with fail
      with_reducible refine (CZ.out _).mono ?_
      rintro e w' ⟨rfl, rfl⟩
      by_cases hop : op = ⟨#[38]⟩ ∨ op = ⟨#[124]⟩
      · by_cases hc : Counts VA ∧ Counts VB
        · rw [bB_yes hc.1, bB_yes hc.2]
          have HN' := Lib.hid (show lgcN VA VB = z by unfold lgcN; rw [← cntL_yes hc.1, ← cntL_yes hc.2, HM.out, HN.out, HZ.out])
          by_cases hzn : 0 ≤ z
          · have XX := Lib.hid (lgc_yes QQ.out hop hc (by rw [HN'.out]; exact hzn))
            have LA := LA.out QQ.out.1 hc.1
            have LB := LB.out QQ.out.2 hc.2
            rw [LA, LB] at NM
            have MA := Lib.hid (show itL VA = m from (cntL_yes hc.1).symm.trans HM.out)
            have MB := Lib.hid (show itL VB = n from (cntL_yes hc.2).symm.trans HN.out)
            rw [MA.out, MB.out] at NM
            rw [MA.out, MB.out, NA.out, NB.out, HN'.out] at XX
            obtain ⟨fx, hfx⟩ : ∃ f : Nat → Int, (fun i => truthI ((itemsV VA).getD i noI)) = f := ⟨_, rfl⟩
            obtain ⟨fy, hfy⟩ : ∃ f : Nat → Int, (fun i => truthI ((itemsV VB).getD i noI)) = f := ⟨_, rfl⟩
            have RX' := RX.out hc.1
            have RY' := RY.out hc.2
            rw [hfx] at RX'
            rw [hfy] at RY'
            obtain ⟨sx', cx', ex, ix⟩ := ints_of_row RX'
            obtain ⟨sy', cy', ey, iy⟩ := ints_of_row RY'
            simp only [Value.slice.injEq, true_and] at ex ey
            obtain ⟨rfl, rfl⟩ := ex
            obtain ⟨rfl, rfl⟩ := ey
            obtain ⟨f, hf⟩ : ∃ f : Nat → Int, lgcF op VA VB = f := ⟨_, rfl⟩
            have FE := Lib.hid (fun i => (by rw [← hf, ← hfx, ← hfy]; show _ = connL op (truthI ((itemsV VA).getD (i % m) noI)) (truthI ((itemsV VB).getD (i % n) noI)); rw [← MA.out, ← MB.out]; rfl : f i = connL op (fx (i % m)) (fy (i % n))))
            rw [hf] at XX
            obtain ⟨W4, hW4⟩ : ∃ W, w5 = W := ⟨_, rfl⟩
            rw [hW4] at B5 KA KB KR ix iy ⊢
            have IX := Lib.hid ix
            have IY := Lib.hid iy
            have KA5 := KA
            have KB5 := KB
            have KR5 := KR
            have hltR := (Array.getElem?_eq_some_iff.1 KR.out).1
            have ST := Lib.hid (show IntR W4 (W4.alloc (.cells #[] 3)) f 0 (.slice (some ⟨W4.heap.size, 0, none⟩) 0 0) from
              ⟨⟨rfl, .inr ⟨W4.heap.size, 0, #[], rfl, Nat.le_refl _, blk_new W4 _ rfl, Nat.le_refl _, Nat.zero_le _, rfl, rfl⟩⟩, below1 W4 _⟩)
            clear hc hf hfx hfy ix iy RX' RY' RX RY LA LB HM HN HZ HN' QQ MA MB hW4 SA SB CA CB CZ
            rcases hop with rfl | rfl
            · have FE := Lib.hid (fun i => (FE.out i).trans (conn_and _ _))
              go_wp2
              go_loopw [13, 14] (fun v i wr => ∃ k : Nat, (k : Int) ≤ z ∧ i = .int .i64 k ∧ IntR W4 wr f k v) (fun _ i _ => (z - intOf i).toNat)
              case atStart => exact ⟨0, by omega, rfl, ST.out⟩
              case round =>
                obtain ⟨k, hk, rfl, hir⟩ := hrel
                have IR := Lib.hid hir
                clear hir
                by_cases hlt : (k : Int) < z
                · obtain ⟨hm0, hn0⟩ := PZ.out (by omega)
                  obtain ⟨bx, ox, rfl, hbx, hcx⟩ := IX.out (k % m) (Nat.mod_lt k hm0)
                  obtain ⟨bY, oy, rfl, hby, hcy⟩ := IY.out (k % n) (Nat.mod_lt k hn0)
                  have CX := Lib.hid hcx
                  have CY := Lib.hid hcy
                  obtain ⟨sv, cv, rfl, _⟩ := ints_of_row IR.out.row
                  have CO := Lib.hid (fun W => specAndL (fx (k % m)) (fy (k % n)) W)
                  clear hcx hcy
                  have H := Lib.hid (show HeldC W4 wr [] from ⟨IR.out.below, (fun _ h => by cases h)⟩)
                  go_upto_region 17 with (fail)
                  refine run_region (ops := (opsOf Try.f15 17)) (S := fun w' => HeldC W4 w' ([])) [(0, true), (1, true), (2, true), (3, true), (4, true), (5, true), (6, true), (7, true), (8, true), (9, true), (10, true), (11, true), (12, true), (13, true), (14, true), (15, false), (16, false), (17, false), (18, true)] (by kernel_rfl) (by kernel_rfl) (by kernel_rfl) (by kernel_rfl) (by kernel_rfl) (fun _ _ _ _ _ h => h) (heldC_drew H.out) ?_
                  have H := Lib.hid (heldC_drew H.out)
                  have IR := Lib.hid (IR.out.keep (below_drew' (Below.refl _ _)))
                  refine run_mov (v := .slice sv k cv) (show opAt (opsOf Try.f15 17) 0 = some (some 70, .move (.tmp 13), none) from by kernel_rfl) (by kernel_rfl) (by kernel_rfl) (by kernel_rfl) ?_
                  refine run_mov (v := .slice (some ⟨bx, ox, none⟩) m cx) (show opAt (opsOf Try.f15 17) 1 = some (some 71, .move (.tmp 8), none) from by kernel_rfl) (by kernel_rfl) (by kernel_rfl) (by kernel_rfl) ?_
                  refine run_mov (v := .int .i64 ((k : Int))) (show opAt (opsOf Try.f15 17) 2 = some (some 72, .move (.tmp 14), none) from by kernel_rfl) (by kernel_rfl) (by kernel_rfl) (by kernel_rfl) ?_
                  refine run_mov (v := .slice (some ⟨bx, ox, none⟩) m cx) (show opAt (opsOf Try.f15 17) 3 = some (some 73, .move (.tmp 8), none) from by kernel_rfl) (by kernel_rfl) (by kernel_rfl) (by kernel_rfl) ?_
                  refine run_len (b := (some ⟨bx, ox, none⟩)) (n := m) (c := cx) (show opAt (opsOf Try.f15 17) 4 = some (some 74, .call { callee := .builtin .len, args := [(.tmp 73)].toArray, argTypes := [51].toArray }, none) from by kernel_rfl) (by kernel_rfl) (by kernel_rfl) (by kernel_rfl) (by kernel_rfl) ?_
                  refine run_rem (k := .i64) (p := (k : Int)) (q := (m : Int)) (z := ((k % m : Nat) : Int)) (show opAt (opsOf Try.f15 17) 5 = some (some 75, .binOp .rem 3 (.tmp 72) (.tmp 74) 3, none) from by kernel_rfl) (by kernel_rfl) (by kernel_rfl) (by kernel_rfl) (by kernel_rfl) ⟨by omega, rfl⟩ ?_
                  refine run_idx1 (n := m) (c := cx) (b := bx) (off := ox) (k := (k % m)) (show opAt (opsOf Try.f15 17) 6 = some (some 76, .indexAddr 51 (.tmp 71) (.tmp 75), none) from by kernel_rfl) (by kernel_rfl) (by kernel_rfl) (by kernel_rfl) (by kernel_rfl) (Nat.mod_lt k hm0) Try.underlying51 (by kernel_rfl) infoInt ?_
                  refine runC_old (b := bx) (j := ox + (k % m)) (v := .int .i64 ((fx (k % m)))) load_int (show opAt (opsOf Try.f15 17) 7 = some (some 77, .load 3 (.tmp 76), none) from by kernel_rfl) (by kernel_rfl) (by kernel_rfl) (by kernel_rfl) hbx CX.out ?_
                  refine run_mov (v := .slice (some ⟨bY, oy, none⟩) n cy) (show opAt (opsOf Try.f15 17) 8 = some (some 78, .move (.tmp 10), none) from by kernel_rfl) (by kernel_rfl) (by kernel_rfl) (by kernel_rfl) ?_
                  refine run_mov (v := .int .i64 ((k : Int))) (show opAt (opsOf Try.f15 17) 9 = some (some 79, .move (.tmp 14), none) from by kernel_rfl) (by kernel_rfl) (by kernel_rfl) (by kernel_rfl) ?_
                  refine run_mov (v := .slice (some ⟨bY, oy, none⟩) n cy) (show opAt (opsOf Try.f15 17) 10 = some (some 80, .move (.tmp 10), none) from by kernel_rfl) (by kernel_rfl) (by kernel_rfl) (by kernel_rfl) ?_
                  refine run_len (b := (some ⟨bY, oy, none⟩)) (n := n) (c := cy) (show opAt (opsOf Try.f15 17) 11 = some (some 81, .call { callee := .builtin .len, args := [(.tmp 80)].toArray, argTypes := [51].toArray }, none) from by kernel_rfl) (by kernel_rfl) (by kernel_rfl) (by kernel_rfl) (by kernel_rfl) ?_
                  refine run_rem (k := .i64) (p := (k : Int)) (q := (n : Int)) (z := ((k % n : Nat) : Int)) (show opAt (opsOf Try.f15 17) 12 = some (some 82, .binOp .rem 3 (.tmp 79) (.tmp 81) 3, none) from by kernel_rfl) (by kernel_rfl) (by kernel_rfl) (by kernel_rfl) (by kernel_rfl) ⟨by omega, rfl⟩ ?_
                  refine run_idx1 (n := n) (c := cy) (b := bY) (off := oy) (k := (k % n)) (show opAt (opsOf Try.f15 17) 13 = some (some 83, .indexAddr 51 (.tmp 78) (.tmp 82), none) from by kernel_rfl) (by kernel_rfl) (by kernel_rfl) (by kernel_rfl) (by kernel_rfl) (Nat.mod_lt k hn0) Try.underlying51 (by kernel_rfl) infoInt ?_
                  refine runC_old (b := bY) (j := oy + (k % n)) (v := .int .i64 ((fy (k % n)))) load_int (show opAt (opsOf Try.f15 17) 14 = some (some 84, .load 3 (.tmp 83), none) from by kernel_rfl) (by kernel_rfl) (by kernel_rfl) (by kernel_rfl) hby CY.out ?_
                  refine run_call (args := [.int .i64 ((fx (k % m))), .int .i64 ((fy (k % n)))]) (show opAt (opsOf Try.f15 17) 15 = some (some 85, .call { callee := .value (.func 48), args := [(.tmp 77), (.tmp 84)].toArray, argTypes := [3, 3].toArray }, none) from by kernel_rfl) (by kernel_rfl) (by kernel_rfl) (by kernel_rfl) (by kernel_rfl) ?_
                  refine (CO.out _).mono ?_
                  rintro en rw1 ⟨rfl, rfl⟩
                  refine ⟨_, rfl, H.out, ?_⟩
                  refine tail_int (aL (fx (k % m)) (fy (k % n))) (show opAt (opsOf Try.f15 17) 16 = some (some 86, .buildSlice 51 1 #[(0, (.tmp 85))], none) from by kernel_rfl) (by kernel_rfl) (by kernel_rfl) (show opAt (opsOf Try.f15 17) 17 = some (some 87, .call { callee := .builtin .append, args := [(.tmp 70), (.tmp 86)].toArray, argTypes := [51, 51].toArray }, none) from by kernel_rfl) (by kernel_rfl) (fun _ => by kernel_rfl) (show opAt (opsOf Try.f15 17) 18 = some (some 13, .assign (.tmp 87), none) from by kernel_rfl) (by kernel_rfl) IR.out (by omega) ?_ (FE.out k).symm
                  rintro v' w2 hN
                  simp only [putAll, Act.put, List.setIfInBounds_toArray, List.set_cons_zero, List.set_cons_succ]
                  have NX := Lib.hid hN
                  clear hN
                  go_wp2
                  go_roundw
                  case rel => exact ⟨k + 1, by omega, by go_num, NX.out⟩
                  case measure => simp [intOf]; omega
                · obtain ⟨N, rfl⟩ : ∃ N : Nat, z = N := ⟨z.toNat, by omega⟩
                  obtain rfl : k = N := by omega
                  obtain ⟨sv, cv, rfl, hsi⟩ := ints_of_row IR.out.row
                  have SV := Lib.hid hsi
                  have BB := Lib.hid (below_then B5.out IR.out.below)
                  have KA := Lib.hid (blk_below IR.out.below KA.out)
                  have KB := Lib.hid (blk_below IR.out.below KB.out)
                  have KR := Lib.hid (blk_below IR.out.below KR.out)
                  rw [Int.toNat_natCast] at XX
                  have LC := Lib.hid (by
                    have h' := specLogVec sv k cv f wr.heap.size wr SV.out (Nat.le_refl _) (by omega)
                    rw [if_pos (by omega)] at h'
                    exact h' : Calls Try.prog 50 #[.slice sv k cv] wr (ResV 1 (vecOf 1 (itF (fun i => logI (f i)) k)) wr))
                  have NM := Lib.hid (fun w1 hb => NM.out k w1 hb)
                  obtain ⟨nms, hnms⟩ : ∃ l, namesL m n k names0 names1 = l := ⟨_, rfl⟩
                  rw [hnms] at NM XX
                  have hr4 := (Array.getElem?_eq_some_iff.1 KR.out).1
                  clear hsi hnms
                  go_wp2_with fail
                  with_reducible refine LC.out.mono ?_
                  rintro e w6 ⟨y, rfl, ho, hb⟩
                  obtain ⟨yk, ya1, yn1, ym1, ya2, yn2, ym2, ya3, yn3, ym3, ya4, yn4, ym4, ya5, yn5, ym5, yc, ye, rfl⟩ := ho.agg
                  have B6 := Lib.hid (below_then BB.out hb)
                  have KA := Lib.hid (blk_below hb KA.out)
                  have KB := Lib.hid (blk_below hb KB.out)
                  have KR := Lib.hid (blk_below hb KR.out)
                  have HO := Lib.hid ho
                  have hs6 := hb.size
                  clear ho hb
                  have hltA := (Array.getElem?_eq_some_iff.1 KA.out).1
                  have hltB := (Array.getElem?_eq_some_iff.1 KB.out).1
                  obtain ⟨ka0, ka1, ka2, ka3, ka4, ka5, ka6, ka7⟩ := vec8 KA.out
                  obtain ⟨kb0, kb1, kb2, kb3, kb4, kb5, kb6, kb7⟩ := vec8 KB.out
                  go_wp2_with fail
                  obtain ⟨w7, hw7⟩ : ∃ W, w6.alloc (.cells #[.int .i64 yk, .slice ya1 yn1 ym1, .slice ya2 yn2 ym2, .slice ya3 yn3 ym3, .slice ya4 yn4 ym4, .slice ya5 yn5 ym5, .int .i64 yc, .int .i64 ye] 31) = W := ⟨_, rfl⟩
                  have B7 := Lib.hid (show Below w.heap.size w w7 from hw7 ▸ B6.out.alloc B6.out.size _)
                  have KY := Lib.hid (show w7.heap[w6.heap.size]? = some (.cells #[.int .i64 yk, .slice ya1 yn1 ym1, .slice ya2 yn2 ym2, .slice ya3 yn3 ym3, .slice ya4 yn4 ym4, .slice ya5 yn5 ym5, .int .i64 yc, .int .i64 ye] 31 (0, 0)) from hw7 ▸ blk_new w6 _ rfl)
                  have KR := Lib.hid (show w7.heap[w.heap.size + 1 + 1]? = some (.cells #[.int .i64 0, .slice none 0 0, .slice none 0 0, .slice none 0 0, .slice none 0 0, .slice none 0 0, .int .i64 0, .int .i64 0] 31 (0, 0)) from hw7 ▸ blk_old KR.out)
                  have HO := Lib.hid (show Own 1 (vecOf 1 (itF (fun i => logI (f i)) k)) (.agg #[.int .i64 yk, .slice ya1 yn1 ym1, .slice ya2 yn2 ym2, .slice ya3 yn3 ym3, .slice ya4 yn4 ym4, .slice ya5 yn5 ym5, .int .i64 yc, .int .i64 ye]) wr.heap.size w6.heap.size w7 from hw7 ▸ HO.out.below (below1 w6 _) (Nat.le_refl _))
                  have S7 := Lib.hid (show w7.heap.size = w6.heap.size + 1 from hw7 ▸ (by simp))
                  rw [hw7]
                  clear ka0 ka1 ka2 ka3 ka4 ka5 ka6 ka7 kb0 kb1 kb2 kb3 kb4 kb5 kb6 kb7
                  clear hw7
                  with_reducible refine (NM.out w7 B7.out).mono ?_
                  rintro e w8 ⟨⟨v', rfl, na, nc, Fn, rfl, hT, hnd, hrg, hcap⟩, hb⟩
                  have KY := Lib.hid (blk_below hb KY.out)
                  have KR := Lib.hid (blk_below hb KR.out)
                  have HO := Lib.hid (HO.out.below hb (by have := S7.out; omega))
                  have B8 := Lib.hid (below_then B7.out hb)
                  have S78 := Lib.hid hb.size
                  have ky3 : w8.cell? ⟨w6.heap.size, 3, none⟩ = some (.slice ya3 yn3 ym3) := cellOf KY.out rfl
                  have fy3 : w8.frozen? ⟨w6.heap.size, 3, none⟩ = false := freeOf KY.out
                  have HT := Lib.hid hT
                  have HG := Lib.hid hrg
                  have HD := Lib.hid hnd
                  clear hb hT hrg hnd
                  go_upto_region 21 with (fail)
                  obtain ⟨w9, hw9⟩ : ∃ W, w8.setCell ⟨w6.heap.size, 3, none⟩ (.slice na nms.length nc) = W := ⟨_, rfl⟩
                  have KY9 := Lib.hid (show w9.heap[w6.heap.size]? = some (.cells #[.int .i64 yk, .slice ya1 yn1 ym1, .slice ya2 yn2 ym2, .slice na nms.length nc, .slice ya4 yn4 ym4, .slice ya5 yn5 ym5, .int .i64 yc, .int .i64 ye] 31 (0, 0)) from hw9 ▸ Joins.block_setCell KY.out _)
                  have KR9 := Lib.hid (show w9.heap[w.heap.size + 1 + 1]? = some (.cells #[.int .i64 0, .slice none 0 0, .slice none 0 0, .slice none 0 0, .slice none 0 0, .slice none 0 0, .int .i64 0, .int .i64 0] 31 (0, 0)) from hw9 ▸ (Below.heap_setCell _ _ _ _ (by show w.heap.size + 1 + 1 ≠ w6.heap.size; omega)).trans KR.out)
                  have B9 := Lib.hid (show Below w.heap.size w w9 from hw9 ▸ B8.out.setCell (p := ⟨w6.heap.size, 3, none⟩) (show w.heap.size ≤ w6.heap.size by omega) _)
                  have FIN := Lib.hid (show Own 1 (mkN 1 (itF (fun i => logI (f i)) k) nms) (.agg #[.int .i64 yk, .slice ya1 yn1 ym1, .slice ya2 yn2 ym2, .slice na nms.length nc, .slice ya4 yn4 ym4, .slice ya5 yn5 ym5, .int .i64 yc, .int .i64 ye]) wr.heap.size w9.heap.size w9 from by
                    have h8 : w9.heap.size = w8.heap.size := by rw [← hw9]; simp
                    have ho : Own 1 (vecOf 1 (itF (fun i => logI (f i)) k)) (.agg #[.int .i64 yk, .slice ya1 yn1 ym1, .slice ya2 yn2 ym2, .slice ya3 yn3 ym3, .slice ya4 yn4 ym4, .slice ya5 yn5 ym5, .int .i64 yc, .int .i64 ye]) wr.heap.size w6.heap.size w9 := hw9 ▸ HO.out.setOut (Nat.le_refl _)
                    have ht : OwnTxs w9 na nms Fn := hw9 ▸ HT.out.kept (fun g hg => Below.heap_setCell _ _ _ _ (by have := HG.out g hg; have := S7.out; show g ≠ w6.heap.size; omega))
                    rw [h8]
                    exact ho.setNames ht HD.out HG.out hcap (by have := S7.out; omega) (by have := S7.out; omega) (by have := S7.out; have := S78.out; omega))
                  rw [hw9]
                  clear hw9 ky3 fy3
                  obtain ⟨k0, k1, k2, k3, k4, k5, k6, k7⟩ := vec8 KY9.out
                  obtain ⟨z0, z1, z2, z3, z4, z5, z6, z7⟩ := vec8 KR9.out
                  obtain ⟨f0, f1, f2, f3, f4, f5, f6, f7⟩ := free8 KR9.out
                  go_wp2
                  rw [XX.out.1, XX.out.2]
                  exact vec_endS rfl rfl rfl rfl KR9.out ⟨_, rfl, (FIN.out.put8 hr4 _ _ _ _ _ _ _ _).wide (by omega) (by rw [put8_size]; exact Nat.le_refl _), put8_below B9.out (show w.heap.size ≤ w.heap.size + 1 + 1 by omega)⟩
            · have FE := Lib.hid (fun i => (FE.out i).trans (conn_or (by decide) _ _))
              go_wp2
              go_loopw [13, 14] (fun v i wr => ∃ k : Nat, (k : Int) ≤ z ∧ i = .int .i64 k ∧ IntR W4 wr f k v) (fun _ i _ => (z - intOf i).toNat)
              case atStart => exact ⟨0, by omega, rfl, ST.out⟩
              case round =>
                obtain ⟨k, hk, rfl, hir⟩ := hrel
                have IR := Lib.hid hir
                clear hir
                by_cases hlt : (k : Int) < z
                · obtain ⟨hm0, hn0⟩ := PZ.out (by omega)
                  obtain ⟨bx, ox, rfl, hbx, hcx⟩ := IX.out (k % m) (Nat.mod_lt k hm0)
                  obtain ⟨bY, oy, rfl, hby, hcy⟩ := IY.out (k % n) (Nat.mod_lt k hn0)
                  have CX := Lib.hid hcx
                  have CY := Lib.hid hcy
                  obtain ⟨sv, cv, rfl, _⟩ := ints_of_row IR.out.row
                  have CO := Lib.hid (fun W => specOrL (fx (k % m)) (fy (k % n)) W)
                  clear hcx hcy
                  have H := Lib.hid (show HeldC W4 wr [] from ⟨IR.out.below, (fun _ h => by cases h)⟩)
                  go_upto_region 18 with (fail)
                  refine run_region (ops := (opsOf Try.f15 18)) (S := fun w' => HeldC W4 w' ([])) [(0, true), (1, true), (2, true), (3, true), (4, true), (5, true), (6, true), (7, true), (8, true), (9, true), (10, true), (11, true), (12, true), (13, true), (14, true), (15, false), (16, false), (17, false), (18, true)] (by kernel_rfl) (by kernel_rfl) (by kernel_rfl) (by kernel_rfl) (by kernel_rfl) (fun _ _ _ _ _ h => h) (heldC_drew H.out) ?_
                  have H := Lib.hid (heldC_drew H.out)
                  have IR := Lib.hid (IR.out.keep (below_drew' (Below.refl _ _)))
                  refine run_mov (v := .slice sv k cv) (show opAt (opsOf Try.f15 18) 0 = some (some 88, .move (.tmp 13), none) from by kernel_rfl) (by kernel_rfl) (by kernel_rfl) (by kernel_rfl) ?_
                  refine run_mov (v := .slice (some ⟨bx, ox, none⟩) m cx) (show opAt (opsOf Try.f15 18) 1 = some (some 89, .move (.tmp 8), none) from by kernel_rfl) (by kernel_rfl) (by kernel_rfl) (by kernel_rfl) ?_
                  refine run_mov (v := .int .i64 ((k : Int))) (show opAt (opsOf Try.f15 18) 2 = some (some 90, .move (.tmp 14), none) from by kernel_rfl) (by kernel_rfl) (by kernel_rfl) (by kernel_rfl) ?_
                  refine run_mov (v := .slice (some ⟨bx, ox, none⟩) m cx) (show opAt (opsOf Try.f15 18) 3 = some (some 91, .move (.tmp 8), none) from by kernel_rfl) (by kernel_rfl) (by kernel_rfl) (by kernel_rfl) ?_
                  refine run_len (b := (some ⟨bx, ox, none⟩)) (n := m) (c := cx) (show opAt (opsOf Try.f15 18) 4 = some (some 92, .call { callee := .builtin .len, args := [(.tmp 91)].toArray, argTypes := [51].toArray }, none) from by kernel_rfl) (by kernel_rfl) (by kernel_rfl) (by kernel_rfl) (by kernel_rfl) ?_
                  refine run_rem (k := .i64) (p := (k : Int)) (q := (m : Int)) (z := ((k % m : Nat) : Int)) (show opAt (opsOf Try.f15 18) 5 = some (some 93, .binOp .rem 3 (.tmp 90) (.tmp 92) 3, none) from by kernel_rfl) (by kernel_rfl) (by kernel_rfl) (by kernel_rfl) (by kernel_rfl) ⟨by omega, rfl⟩ ?_
                  refine run_idx1 (n := m) (c := cx) (b := bx) (off := ox) (k := (k % m)) (show opAt (opsOf Try.f15 18) 6 = some (some 94, .indexAddr 51 (.tmp 89) (.tmp 93), none) from by kernel_rfl) (by kernel_rfl) (by kernel_rfl) (by kernel_rfl) (by kernel_rfl) (Nat.mod_lt k hm0) Try.underlying51 (by kernel_rfl) infoInt ?_
                  refine runC_old (b := bx) (j := ox + (k % m)) (v := .int .i64 ((fx (k % m)))) load_int (show opAt (opsOf Try.f15 18) 7 = some (some 95, .load 3 (.tmp 94), none) from by kernel_rfl) (by kernel_rfl) (by kernel_rfl) (by kernel_rfl) hbx CX.out ?_
                  refine run_mov (v := .slice (some ⟨bY, oy, none⟩) n cy) (show opAt (opsOf Try.f15 18) 8 = some (some 96, .move (.tmp 10), none) from by kernel_rfl) (by kernel_rfl) (by kernel_rfl) (by kernel_rfl) ?_
                  refine run_mov (v := .int .i64 ((k : Int))) (show opAt (opsOf Try.f15 18) 9 = some (some 97, .move (.tmp 14), none) from by kernel_rfl) (by kernel_rfl) (by kernel_rfl) (by kernel_rfl) ?_
                  refine run_mov (v := .slice (some ⟨bY, oy, none⟩) n cy) (show opAt (opsOf Try.f15 18) 10 = some (some 98, .move (.tmp 10), none) from by kernel_rfl) (by kernel_rfl) (by kernel_rfl) (by kernel_rfl) ?_
                  refine run_len (b := (some ⟨bY, oy, none⟩)) (n := n) (c := cy) (show opAt (opsOf Try.f15 18) 11 = some (some 99, .call { callee := .builtin .len, args := [(.tmp 98)].toArray, argTypes := [51].toArray }, none) from by kernel_rfl) (by kernel_rfl) (by kernel_rfl) (by kernel_rfl) (by kernel_rfl) ?_
                  refine run_rem (k := .i64) (p := (k : Int)) (q := (n : Int)) (z := ((k % n : Nat) : Int)) (show opAt (opsOf Try.f15 18) 12 = some (some 100, .binOp .rem 3 (.tmp 97) (.tmp 99) 3, none) from by kernel_rfl) (by kernel_rfl) (by kernel_rfl) (by kernel_rfl) (by kernel_rfl) ⟨by omega, rfl⟩ ?_
                  refine run_idx1 (n := n) (c := cy) (b := bY) (off := oy) (k := (k % n)) (show opAt (opsOf Try.f15 18) 13 = some (some 101, .indexAddr 51 (.tmp 96) (.tmp 100), none) from by kernel_rfl) (by kernel_rfl) (by kernel_rfl) (by kernel_rfl) (by kernel_rfl) (Nat.mod_lt k hn0) Try.underlying51 (by kernel_rfl) infoInt ?_
                  refine runC_old (b := bY) (j := oy + (k % n)) (v := .int .i64 ((fy (k % n)))) load_int (show opAt (opsOf Try.f15 18) 14 = some (some 102, .load 3 (.tmp 101), none) from by kernel_rfl) (by kernel_rfl) (by kernel_rfl) (by kernel_rfl) hby CY.out ?_
                  refine run_call (args := [.int .i64 ((fx (k % m))), .int .i64 ((fy (k % n)))]) (show opAt (opsOf Try.f15 18) 15 = some (some 103, .call { callee := .value (.func 49), args := [(.tmp 95), (.tmp 102)].toArray, argTypes := [3, 3].toArray }, none) from by kernel_rfl) (by kernel_rfl) (by kernel_rfl) (by kernel_rfl) (by kernel_rfl) ?_
                  refine (CO.out _).mono ?_
                  rintro en rw1 ⟨rfl, rfl⟩
                  refine ⟨_, rfl, H.out, ?_⟩
                  refine tail_int (oL (fx (k % m)) (fy (k % n))) (show opAt (opsOf Try.f15 18) 16 = some (some 104, .buildSlice 51 1 #[(0, (.tmp 103))], none) from by kernel_rfl) (by kernel_rfl) (by kernel_rfl) (show opAt (opsOf Try.f15 18) 17 = some (some 105, .call { callee := .builtin .append, args := [(.tmp 88), (.tmp 104)].toArray, argTypes := [51, 51].toArray }, none) from by kernel_rfl) (by kernel_rfl) (fun _ => by kernel_rfl) (show opAt (opsOf Try.f15 18) 18 = some (some 13, .assign (.tmp 105), none) from by kernel_rfl) (by kernel_rfl) IR.out (by omega) ?_ (FE.out k).symm
                  rintro v' w2 hN
                  simp only [putAll, Act.put, List.setIfInBounds_toArray, List.set_cons_zero, List.set_cons_succ]
                  have NX := Lib.hid hN
                  clear hN
                  go_wp2
                  go_roundw
                  case rel => exact ⟨k + 1, by omega, by go_num, NX.out⟩
                  case measure => simp [intOf]; omega
                · obtain ⟨N, rfl⟩ : ∃ N : Nat, z = N := ⟨z.toNat, by omega⟩
                  obtain rfl : k = N := by omega
                  obtain ⟨sv, cv, rfl, hsi⟩ := ints_of_row IR.out.row
                  have SV := Lib.hid hsi
                  have BB := Lib.hid (below_then B5.out IR.out.below)
                  have KA := Lib.hid (blk_below IR.out.below KA.out)
                  have KB := Lib.hid (blk_below IR.out.below KB.out)
                  have KR := Lib.hid (blk_below IR.out.below KR.out)
                  rw [Int.toNat_natCast] at XX
                  have LC := Lib.hid (by
                    have h' := specLogVec sv k cv f wr.heap.size wr SV.out (Nat.le_refl _) (by omega)
                    rw [if_pos (by omega)] at h'
                    exact h' : Calls Try.prog 50 #[.slice sv k cv] wr (ResV 1 (vecOf 1 (itF (fun i => logI (f i)) k)) wr))
                  have NM := Lib.hid (fun w1 hb => NM.out k w1 hb)
                  obtain ⟨nms, hnms⟩ : ∃ l, namesL m n k names0 names1 = l := ⟨_, rfl⟩
                  rw [hnms] at NM XX
                  have hr4 := (Array.getElem?_eq_some_iff.1 KR.out).1
                  clear hsi hnms
                  go_wp2_with fail
                  with_reducible refine LC.out.mono ?_
                  rintro e w6 ⟨y, rfl, ho, hb⟩
                  obtain ⟨yk, ya1, yn1, ym1, ya2, yn2, ym2, ya3, yn3, ym3, ya4, yn4, ym4, ya5, yn5, ym5, yc, ye, rfl⟩ := ho.agg
                  have B6 := Lib.hid (below_then BB.out hb)
                  have KA := Lib.hid (blk_below hb KA.out)
                  have KB := Lib.hid (blk_below hb KB.out)
                  have KR := Lib.hid (blk_below hb KR.out)
                  have HO := Lib.hid ho
                  have hs6 := hb.size
                  clear ho hb
                  have hltA := (Array.getElem?_eq_some_iff.1 KA.out).1
                  have hltB := (Array.getElem?_eq_some_iff.1 KB.out).1
                  obtain ⟨ka0, ka1, ka2, ka3, ka4, ka5, ka6, ka7⟩ := vec8 KA.out
                  obtain ⟨kb0, kb1, kb2, kb3, kb4, kb5, kb6, kb7⟩ := vec8 KB.out
                  go_wp2_with fail
                  obtain ⟨w7, hw7⟩ : ∃ W, w6.alloc (.cells #[.int .i64 yk, .slice ya1 yn1 ym1, .slice ya2 yn2 ym2, .slice ya3 yn3 ym3, .slice ya4 yn4 ym4, .slice ya5 yn5 ym5, .int .i64 yc, .int .i64 ye] 31) = W := ⟨_, rfl⟩
                  have B7 := Lib.hid (show Below w.heap.size w w7 from hw7 ▸ B6.out.alloc B6.out.size _)
                  have KY := Lib.hid (show w7.heap[w6.heap.size]? = some (.cells #[.int .i64 yk, .slice ya1 yn1 ym1, .slice ya2 yn2 ym2, .slice ya3 yn3 ym3, .slice ya4 yn4 ym4, .slice ya5 yn5 ym5, .int .i64 yc, .int .i64 ye] 31 (0, 0)) from hw7 ▸ blk_new w6 _ rfl)
                  have KR := Lib.hid (show w7.heap[w.heap.size + 1 + 1]? = some (.cells #[.int .i64 0, .slice none 0 0, .slice none 0 0, .slice none 0 0, .slice none 0 0, .slice none 0 0, .int .i64 0, .int .i64 0] 31 (0, 0)) from hw7 ▸ blk_old KR.out)
                  have HO := Lib.hid (show Own 1 (vecOf 1 (itF (fun i => logI (f i)) k)) (.agg #[.int .i64 yk, .slice ya1 yn1 ym1, .slice ya2 yn2 ym2, .slice ya3 yn3 ym3, .slice ya4 yn4 ym4, .slice ya5 yn5 ym5, .int .i64 yc, .int .i64 ye]) wr.heap.size w6.heap.size w7 from hw7 ▸ HO.out.below (below1 w6 _) (Nat.le_refl _))
                  have S7 := Lib.hid (show w7.heap.size = w6.heap.size + 1 from hw7 ▸ (by simp))
                  rw [hw7]
                  clear ka0 ka1 ka2 ka3 ka4 ka5 ka6 ka7 kb0 kb1 kb2 kb3 kb4 kb5 kb6 kb7
                  clear hw7
                  with_reducible refine (NM.out w7 B7.out).mono ?_
                  rintro e w8 ⟨⟨v', rfl, na, nc, Fn, rfl, hT, hnd, hrg, hcap⟩, hb⟩
                  have KY := Lib.hid (blk_below hb KY.out)
                  have KR := Lib.hid (blk_below hb KR.out)
                  have HO := Lib.hid (HO.out.below hb (by have := S7.out; omega))
                  have B8 := Lib.hid (below_then B7.out hb)
                  have S78 := Lib.hid hb.size
                  have ky3 : w8.cell? ⟨w6.heap.size, 3, none⟩ = some (.slice ya3 yn3 ym3) := cellOf KY.out rfl
                  have fy3 : w8.frozen? ⟨w6.heap.size, 3, none⟩ = false := freeOf KY.out
                  have HT := Lib.hid hT
                  have HG := Lib.hid hrg
                  have HD := Lib.hid hnd
                  clear hb hT hrg hnd
                  go_upto_region 21 with (fail)
                  obtain ⟨w9, hw9⟩ : ∃ W, w8.setCell ⟨w6.heap.size, 3, none⟩ (.slice na nms.length nc) = W := ⟨_, rfl⟩
                  have KY9 := Lib.hid (show w9.heap[w6.heap.size]? = some (.cells #[.int .i64 yk, .slice ya1 yn1 ym1, .slice ya2 yn2 ym2, .slice na nms.length nc, .slice ya4 yn4 ym4, .slice ya5 yn5 ym5, .int .i64 yc, .int .i64 ye] 31 (0, 0)) from hw9 ▸ Joins.block_setCell KY.out _)
                  have KR9 := Lib.hid (show w9.heap[w.heap.size + 1 + 1]? = some (.cells #[.int .i64 0, .slice none 0 0, .slice none 0 0, .slice none 0 0, .slice none 0 0, .slice none 0 0, .int .i64 0, .int .i64 0] 31 (0, 0)) from hw9 ▸ (Below.heap_setCell _ _ _ _ (by show w.heap.size + 1 + 1 ≠ w6.heap.size; omega)).trans KR.out)
                  have B9 := Lib.hid (show Below w.heap.size w w9 from hw9 ▸ B8.out.setCell (p := ⟨w6.heap.size, 3, none⟩) (show w.heap.size ≤ w6.heap.size by omega) _)
                  have FIN := Lib.hid (show Own 1 (mkN 1 (itF (fun i => logI (f i)) k) nms) (.agg #[.int .i64 yk, .slice ya1 yn1 ym1, .slice ya2 yn2 ym2, .slice na nms.length nc, .slice ya4 yn4 ym4, .slice ya5 yn5 ym5, .int .i64 yc, .int .i64 ye]) wr.heap.size w9.heap.size w9 from by
                    have h8 : w9.heap.size = w8.heap.size := by rw [← hw9]; simp
                    have ho : Own 1 (vecOf 1 (itF (fun i => logI (f i)) k)) (.agg #[.int .i64 yk, .slice ya1 yn1 ym1, .slice ya2 yn2 ym2, .slice ya3 yn3 ym3, .slice ya4 yn4 ym4, .slice ya5 yn5 ym5, .int .i64 yc, .int .i64 ye]) wr.heap.size w6.heap.size w9 := hw9 ▸ HO.out.setOut (Nat.le_refl _)
                    have ht : OwnTxs w9 na nms Fn := hw9 ▸ HT.out.kept (fun g hg => Below.heap_setCell _ _ _ _ (by have := HG.out g hg; have := S7.out; show g ≠ w6.heap.size; omega))
                    rw [h8]
                    exact ho.setNames ht HD.out HG.out hcap (by have := S7.out; omega) (by have := S7.out; omega) (by have := S7.out; have := S78.out; omega))
                  rw [hw9]
                  clear hw9 ky3 fy3
                  obtain ⟨k0, k1, k2, k3, k4, k5, k6, k7⟩ := vec8 KY9.out
                  obtain ⟨z0, z1, z2, z3, z4, z5, z6, z7⟩ := vec8 KR9.out
                  obtain ⟨f0, f1, f2, f3, f4, f5, f6, f7⟩ := free8 KR9.out
                  go_wp2
                  rw [XX.out.1, XX.out.2]
                  exact vec_endS rfl rfl rfl rfl KR9.out ⟨_, rfl, (FIN.out.put8 hr4 _ _ _ _ _ _ _ _).wide (by omega) (by rw [put8_size]; exact Nat.le_refl _), put8_below B9.out (show w.heap.size ≤ w.heap.size + 1 + 1 by omega)⟩
          · have XX := Lib.hid (lgc_len QQ.out hop hc (by rw [HN'.out]; exact hzn))
            rcases hop with rfl | rfl
            · clear hc
              obtain ⟨z0, z1, z2, z3, z4, z5, z6, z7⟩ := vec8 KR.out
              obtain ⟨f0, f1, f2, f3, f4, f5, f6, f7⟩ := free8 KR.out
              go_wp2
              rw [XX.out.1, XX.out.2]
              exact vec_endS rfl rfl rfl rfl KR.out (zeroS _ w _ (put8_below B5.out (show w.heap.size ≤ w.heap.size + 1 + 1 by omega)))
            · clear hc
              obtain ⟨z0, z1, z2, z3, z4, z5, z6, z7⟩ := vec8 KR.out
              obtain ⟨f0, f1, f2, f3, f4, f5, f6, f7⟩ := free8 KR.out
              go_wp2
              rw [XX.out.1, XX.out.2]
              exact vec_endS rfl rfl rfl rfl KR.out (zeroS _ w _ (put8_below B5.out (show w.heap.size ≤ w.heap.size + 1 + 1 by omega)))
        · have XX := Lib.hid (lgc_non QQ.out hop hc)
          by_cases ca : Counts VA
          · have cb : ¬ Counts VB := fun h => hc ⟨ca, h⟩
            rw [bB_yes ca, bB_no cb]
            clear hc ca cb
            rcases hop with rfl | rfl
            · obtain ⟨z0, z1, z2, z3, z4, z5, z6, z7⟩ := vec8 KR.out
              obtain ⟨f0, f1, f2, f3, f4, f5, f6, f7⟩ := free8 KR.out
              go_wp2
              rw [XX.out.1, XX.out.2]
              exact vec_endS rfl rfl rfl rfl KR.out (zeroS _ w _ (put8_below B5.out (show w.heap.size ≤ w.heap.size + 1 + 1 by omega)))
            · obtain ⟨z0, z1, z2, z3, z4, z5, z6, z7⟩ := vec8 KR.out
              obtain ⟨f0, f1, f2, f3, f4, f5, f6, f7⟩ := free8 KR.out
              go_wp2
              rw [XX.out.1, XX.out.2]
              exact vec_endS rfl rfl rfl rfl KR.out (zeroS _ w _ (put8_below B5.out (show w.heap.size ≤ w.heap.size + 1 + 1 by omega)))
          · rw [bB_no ca]
            clear hc ca
            rcases hop with rfl | rfl
            · obtain ⟨z0, z1, z2, z3, z4, z5, z6, z7⟩ := vec8 KR.out
              obtain ⟨f0, f1, f2, f3, f4, f5, f6, f7⟩ := free8 KR.out
              go_wp2
              rw [XX.out.1, XX.out.2]
              exact vec_endS rfl rfl rfl rfl KR.out (zeroS _ w _ (put8_below B5.out (show w.heap.size ≤ w.heap.size + 1 + 1 by omega)))
            · obtain ⟨z0, z1, z2, z3, z4, z5, z6, z7⟩ := vec8 KR.out
              obtain ⟨f0, f1, f2, f3, f4, f5, f6, f7⟩ := free8 KR.out
              go_wp2
              rw [XX.out.1, XX.out.2]
              exact vec_endS rfl rfl rfl rfl KR.out (zeroS _ w _ (put8_below B5.out (show w.heap.size ≤ w.heap.size + 1 + 1 by omega)))
      · have XX := Lib.hid (lgc_unk QQ.out hop)
        have hop1 : ¬ op = ⟨#[38]⟩ := fun h => hop (.inl h)
        have hop2 : ¬ op = ⟨#[124]⟩ := fun h => hop (.inr h)
        have hop3 : (op.toList == [38]) = false := by have h := str_ne (y := ⟨#[38]⟩) hop1; rw [ByteArray.toList_eq ⟨#[38]⟩] at h; exact h
        have hop4 : (op.toList == [124]) = false := by have h := str_ne (y := ⟨#[124]⟩) hop2; rw [ByteArray.toList_eq ⟨#[124]⟩] at h; exact h
        clear hop hop1 hop2
        obtain ⟨z0, z1, z2, z3, z4, z5, z6, z7⟩ := vec8 KR.out
        obtain ⟨f0, f1, f2, f3, f4, f5, f6, f7⟩ := free8 KR.out
        go_wp2
        rw [XX.out.1, XX.out.2]
        exact vec_endS rfl rfl rfl rfl KR.out (zeroS _ w _ (put8_below B5.out (show w.heap.size ≤ w.heap.size + 1 + 1 by omega)))
    · rw [bB_no qb]
      have XX := Lib.hid (lgc_bad (op := op) (fun h : ValidV VA ∧ ValidV VB => qb h.2))
      clear qa qb
      go_wp2_with fail
      with_reducible refine (BD.out _).mono ?_
      rintro e w9 ⟨rfl, b⟩
      have B9 := Lib.hid (below_then B3.out b)
      have K0 := Lib.hid (blk_below b KR.out)
      clear b
      obtain ⟨z0, z1, z2, z3, z4, z5, z6, z7⟩ := vec8 K0.out
      obtain ⟨f0, f1, f2, f3, f4, f5, f6, f7⟩ := free8 K0.out
      go_wp2
      rw [XX.out.1, XX.out.2]
      exact vec_endS rfl rfl rfl rfl K0.out (zeroS _ w _ (put8_below B9.out (show w.heap.size ≤ w.heap.size + 1 + 1 by omega)))
  · rw [bB_no qa]
    have XX := Lib.hid (lgc_bad (op := op) (fun h : ValidV VA ∧ ValidV VB => qa h.1))
    clear qa
    go_wp2_with fail
    with_reducible refine (BD.out _).mono ?_
    rintro e w9 ⟨rfl, b⟩
    have B9 := Lib.hid (below_then B2.out b)
    have K0 := Lib.hid (blk_below b KR.out)
    clear b
    obtain ⟨z0, z1, z2, z3, z4, z5, z6, z7⟩ := vec8 K0.out
    obtain ⟨f0, f1, f2, f3, f4, f5, f6, f7⟩ := free8 K0.out
    go_wp2
    rw [XX.out.1, XX.out.2]
    exact vec_endS rfl rfl rfl rfl K0.out (zeroS _ w _ (put8_below B9.out (show w.heap.size ≤ w.heap.size + 1 + 1 by omega)))
end Go.Proofs.Ytlnjjjoeblopeaa

/- ArithmeticOf of the reference. -/
namespace Go.Proofs.Ytlnjjjoeblopeaa
open Go.RowKit
set_option maxRecDepth 100000
set_option linter.unusedVariables false

theorem idx_cases (op : ByteArray) : (∃ i, i < 7 ∧ op = opA i ∧ idxA op = some i) ∨ ((∀ i, i < 7 → ¬ op = opA i) ∧ idxA op = none) := by
  by_cases h_0 : op = opA 0
  · exact .inl ⟨0, by omega, h_0, idx_0  h_0⟩
  by_cases h_1 : op = opA 1
  · exact .inl ⟨1, by omega, h_1, idx_1 h_0 h_1⟩
  by_cases h_2 : op = opA 2
  · exact .inl ⟨2, by omega, h_2, idx_2 h_0 h_1 h_2⟩
  by_cases h_3 : op = opA 3
  · exact .inl ⟨3, by omega, h_3, idx_3 h_0 h_1 h_2 h_3⟩
  by_cases h_4 : op = opA 4
  · exact .inl ⟨4, by omega, h_4, idx_4 h_0 h_1 h_2 h_3 h_4⟩
  by_cases h_5 : op = opA 5
  · exact .inl ⟨5, by omega, h_5, idx_5 h_0 h_1 h_2 h_3 h_4 h_5⟩
  by_cases h_6 : op = opA 6
  · exact .inl ⟨6, by omega, h_6, idx_6 h_0 h_1 h_2 h_3 h_4 h_5 h_6⟩
  refine .inr ⟨fun i hi => ?_, idx_no h_0 h_1 h_2 h_3 h_4 h_5 h_6⟩
  rcases (show i = 0 ∨ i = 1 ∨ i = 2 ∨ i = 3 ∨ i = 4 ∨ i = 5 ∨ i = 6 by omega) with rfl | rfl | rfl | rfl | rfl | rfl | rfl <;> assumption
theorem has_yes {op : ByteArray} {i : Nat} (hi : i < 7) (h : op = opA i) : decide (0 ≤ findF op opA 7 0) = true := by
  rw [findF_any]
  exact List.any_eq_true.2 ⟨i, by rw [List.mem_range'_1]; omega, by rw [h]; exact beq_self_eq_true _⟩
theorem has_no {op : ByteArray} (h : ∀ i, i < 7 → ¬ op = opA i) : decide (0 ≤ findF op opA 7 0) = false := by
  rw [findF_any, List.any_eq_false]
  intro k hk
  rw [List.mem_range'_1] at hk
  have := str_ne (h k (by omega))
  intro e
  have e' := eq_of_beq e
  rw [e'] at this
  simp at this
/-- The reference's view of a valid vector as numbers. -/
theorem specNumU (d : Nat) (v : Vec) (val : Value) (lo hi : Nat) (w : World) (hv : VecAt lo hi w d v val) (hval : ValidV v) :
    Calls Try.prog 76 #[val] w fun e w' => ∃ sa c, e = .returned (.tuple #[.slice sa (cntL v) c, .bool (bB (Counts v))]) ∧ (Counts v → ∃ k a2 n2 m2 a3 n3 m3 a4 n4 m4 a5 n5 m5 co en, val = .agg #[.int .i64 k, .slice sa (itL v) c, .slice a2 n2 m2, .slice a3 n3 m3, .slice a4 n4 m4, .slice a5 n5 m5, .int .i64 co, .int .i64 en]) ∧ Below w.heap.size w w' := by
  obtain ⟨k, items, parts, names, cls, levels, code, env⟩ := v
  obtain ⟨d', ai, ci, ap, cp, an, cn, ac, cc, al, cl, ed, rfl, hI, hN, hC, hL, hP⟩ := vecAt_open hv
  by_cases hc : Counts (.mk k items parts names cls levels code env)
  · rw [cntL_yes hc, bB_yes hc]
    refine (specNumsY k ai ap an ac al items.length ci parts.length cp names.length cn cls.length cc levels.length cl code env w hc.1 hc.2).mono ?_
    rintro e w' ⟨rfl, hb⟩
    exact ⟨ai, ci, rfl, fun _ => ⟨_, _, _, _, _, _, _, _, _, _, _, _, _, _, _, rfl⟩, hb⟩
  · rw [cntL_no hc, bB_no hc]
    refine (specNumsN k ai ap an ac al items.length ci parts.length cp names.length cn cls.length cc levels.length cl code env w hc).mono ?_
    rintro e w' ⟨⟨sa, c, rfl⟩, hb⟩
    exact ⟨sa, c, rfl, fun h => absurd h hc, hb⟩
set_option maxHeartbeats 8000000 in
theorem specArithmeticOf (d0 d1 : Nat) (a b : Vec) (op : ByteArray) (va vb : Value) (lo hi : Nat) (w : World) (h0 : VecAt lo hi w d0 a va) (h1 : VecAt lo hi w d1 b vb) (hhi : hi ≤ w.heap.size) (hsm0 : Small d0 a) (hsm1 : Small d1 b) :
    Calls Try.prog 23 #[.string op, va, vb] w (ResVS 1 (ariV (idxA op) a b) (ariS (idxA op) a b) w) := by
  have CA := Lib.hid (fun (w1 : World) (hb : Below w.heap.size w w1) => specIsVector d0 a va lo hi w1 (h0.below hb hhi) (Nat.le_trans hhi hb.size) hsm0)
  have CB := Lib.hid (fun (w1 : World) (hb : Below w.heap.size w w1) => specIsVector d1 b vb lo hi w1 (h1.below hb hhi) (Nat.le_trans hhi hb.size) hsm1)
  have SA := Lib.hid (fun (w1 : World) (hb : Below w.heap.size w w1) (hv : ValidV a) => specNumU d0 a va lo hi w1 (h0.below hb hhi) hv)
  have SB := Lib.hid (fun (w1 : World) (hb : Below w.heap.size w w1) (hv : ValidV b) => specNumU d1 b vb lo hi w1 (h1.below hb hhi) hv)
  have BD := Lib.hid (fun W => specBad W)
  obtain ⟨VA, hVA⟩ : ∃ V, a = V := ⟨_, rfl⟩
  obtain ⟨VB, hVB⟩ : ∃ V, b = V := ⟨_, rfl⟩
  rw [hVA] at CA SA ⊢
  rw [hVB] at CB SB ⊢
  obtain ⟨k0, items0, parts0, names0, cls0, lev0, code0, env0⟩ := a
  obtain ⟨d0', ai0, ci0, ap0, cp0, an0, cn0, ac0, cc0, al0, cl0, ed0, rfl, hI0, hN0, hC0, hL0, hP0⟩ := vecAt_open h0
  have ln0 : names0.length ≤ 1048576 := by subst ed0; exact hsm0.2.2.1
  have li0 : items0.length ≤ 1048576 := by subst ed0; exact hsm0.1
  have lp0 : parts0.length ≤ 1048576 := by subst ed0; exact hsm0.2.1
  obtain ⟨k1, items1, parts1, names1, cls1, lev1, code1, env1⟩ := b
  obtain ⟨d1', ai1, ci1, ap1, cp1, an1, cn1, ac1, cc1, al1, cl1, ed1, rfl, hI1, hN1, hC1, hL1, hP1⟩ := vecAt_open h1
  have ln1 : names1.length ≤ 1048576 := by subst ed1; exact hsm1.2.2.1
  have li1 : items1.length ≤ 1048576 := by subst ed1; exact hsm1.1
  have lp1 : parts1.length ≤ 1048576 := by subst ed1; exact hsm1.2.1
  have IA := Lib.hid (show itemsV VA = items0 by rw [← hVA]; rfl)
  have IB := Lib.hid (show itemsV VB = items1 by rw [← hVB]; rfl)
  have NA := Lib.hid (show namesV VA = names0 by rw [← hVA]; rfl)
  have NB := Lib.hid (show namesV VB = names1 by rw [← hVB]; rfl)
  have EA := Lib.hid (show itL VA = items0.length by rw [← hVA]; rfl)
  have EB := Lib.hid (show itL VB = items1.length by rw [← hVB]; rfl)
  have LA := Lib.hid (fun (h : ValidV VA) (hc : Counts VA) => (by rw [← hVA] at h hc ⊢; exact len_counts h hc : lenV k0 items0.length parts0.length = itL VA))
  have LB := Lib.hid (fun (h : ValidV VB) (hc : Counts VB) => (by rw [← hVB] at h hc ⊢; exact len_counts h hc : lenV k1 items1.length parts1.length = itL VB))
  have QA := Lib.hid (fun (h : ValidV VA) (hc : Counts VA) (i : Nat) (hi : i < items0.length) => (by rw [← hVA] at h hc; exact num_at h hc hi : NumIt (items0.getD i noI)))
  have QB := Lib.hid (fun (h : ValidV VB) (hc : Counts VB) (i : Nat) (hi : i < items1.length) => (by rw [← hVB] at h hc; exact num_at h hc hi : NumIt (items1.getD i noI)))
  have IX := Lib.hid (fun (i : Nat) (h : i < items0.length) => hI0.at_ (k := i) h)
  have IY := Lib.hid (fun (i : Nat) (h : i < items1.length) => hI1.at_ (k := i) h)
  have NM := Lib.hid (fun (N : Nat) (w1 : World) (hb : Below w.heap.size w w1) => specNames k0 names0 ai0 ap0 an0 ac0 al0 items0.length ci0 parts0.length cp0 cn0 cls0.length cc0 lev0.length cl0 code0 env0 k1 names1 ai1 ap1 an1 ac1 al1 items1.length ci1 parts1.length cp1 cn1 cls1.length cc1 lev1.length cl1 code1 env1 N lo hi w1 (hN0.below hb hhi) (hN1.below hb hhi) (Nat.le_trans hhi hb.size) ln0 ln1 li0 lp0 li1 lp1)
  clear h0 h1 hsm0 hsm1 hI0 hN0 hC0 hL0 hP0 hI1 hN1 hC1 hL1 hP1 ed0 ed1 hVA hVB li0 li1 lp0 lp1 ln0 ln1
  go_enter Try.func23, Try.ntmps23
  go_wp2_with fail
  obtain ⟨w1, hw1⟩ : ∃ W, ((w.alloc (.cells #[.int .i64 k0, .slice ai0 items0.length ci0, .slice ap0 parts0.length cp0, .slice an0 names0.length cn0, .slice ac0 cls0.length cc0, .slice al0 lev0.length cl0, .int .i64 code0, .int .i64 env0] 31)).alloc (.cells #[.int .i64 k1, .slice ai1 items1.length ci1, .slice ap1 parts1.length cp1, .slice an1 names1.length cn1, .slice ac1 cls1.length cc1, .slice al1 lev1.length cl1, .int .i64 code1, .int .i64 env1] 31)).alloc (.cells #[.int .i64 0, .slice none 0 0, .slice none 0 0, .slice none 0 0, .slice none 0 0, .slice none 0 0, .int .i64 0, .int .i64 0] 31) = W := ⟨_, rfl⟩
  have hsz1 : (w.alloc (.cells #[.int .i64 k0, .slice ai0 items0.length ci0, .slice ap0 parts0.length cp0, .slice an0 names0.length cn0, .slice ac0 cls0.length cc0, .slice al0 lev0.length cl0, .int .i64 code0, .int .i64 env0] 31)).heap.size = w.heap.size + 1 := by simp
  have hsz2 : ((w.alloc (.cells #[.int .i64 k0, .slice ai0 items0.length ci0, .slice ap0 parts0.length cp0, .slice an0 names0.length cn0, .slice ac0 cls0.length cc0, .slice al0 lev0.length cl0, .int .i64 code0, .int .i64 env0] 31)).alloc (.cells #[.int .i64 k1, .slice ai1 items1.length ci1, .slice ap1 parts1.length cp1, .slice an1 names1.length cn1, .slice ac1 cls1.length cc1, .slice al1 lev1.length cl1, .int .i64 code1, .int .i64 env1] 31)).heap.size = w.heap.size + 1 + 1 := by simp
  have B1 := Lib.hid (show Below w.heap.size w w1 from hw1 ▸ (below2 w _ _).alloc (by simp; omega) _)
  have KA := Lib.hid (show w1.heap[w.heap.size]? = some (.cells #[.int .i64 k0, .slice ai0 items0.length ci0, .slice ap0 parts0.length cp0, .slice an0 names0.length cn0, .slice ac0 cls0.length cc0, .slice al0 lev0.length cl0, .int .i64 code0, .int .i64 env0] 31 (0, 0)) from hw1 ▸ blk_old (blk_old (blk_new w _ rfl)))
  have KB := Lib.hid (show w1.heap[w.heap.size + 1]? = some (.cells #[.int .i64 k1, .slice ai1 items1.length ci1, .slice ap1 parts1.length cp1, .slice an1 names1.length cn1, .slice ac1 cls1.length cc1, .slice al1 lev1.length cl1, .int .i64 code1, .int .i64 env1] 31 (0, 0)) from hw1 ▸ blk_old (hsz1 ▸ blk_new (w.alloc (.cells #[.int .i64 k0, .slice ai0 items0.length ci0, .slice ap0 parts0.length cp0, .slice an0 names0.length cn0, .slice ac0 cls0.length cc0, .slice al0 lev0.length cl0, .int .i64 code0, .int .i64 env0] 31)) (.cells #[.int .i64 k1, .slice ai1 items1.length ci1, .slice ap1 parts1.length cp1, .slice an1 names1.length cn1, .slice ac1 cls1.length cc1, .slice al1 lev1.length cl1, .int .i64 code1, .int .i64 env1] 31) rfl))
  have KR := Lib.hid (show w1.heap[w.heap.size + 1 + 1]? = some (.cells #[.int .i64 0, .slice none 0 0, .slice none 0 0, .slice none 0 0, .slice none 0 0, .slice none 0 0, .int .i64 0, .int .i64 0] 31 (0, 0)) from hw1 ▸ hsz2 ▸ blk_new ((w.alloc (.cells #[.int .i64 k0, .slice ai0 items0.length ci0, .slice ap0 parts0.length cp0, .slice an0 names0.length cn0, .slice ac0 cls0.length cc0, .slice al0 lev0.length cl0, .int .i64 code0, .int .i64 env0] 31)).alloc (.cells #[.int .i64 k1, .slice ai1 items1.length ci1, .slice ap1 parts1.length cp1, .slice an1 names1.length cn1, .slice ac1 cls1.length cc1, .slice al1 lev1.length cl1, .int .i64 code1, .int .i64 env1] 31)) (.cells #[.int .i64 0, .slice none 0 0, .slice none 0 0, .slice none 0 0, .slice none 0 0, .slice none 0 0, .int .i64 0, .int .i64 0] 31) rfl)
  rw [hw1]
  clear hw1 hsz1 hsz2
  with_reducible refine (CA.out _ B1.out).mono ?_
  rintro e w2 ⟨rfl, b⟩
  have B2 := Lib.hid (below_then B1.out b)
  have KA := Lib.hid (blk_below b KA.out)
  have KB := Lib.hid (blk_below b KB.out)
  have KR := Lib.hid (blk_below b KR.out)
  clear b
  by_cases qa : ValidV VA
  · rw [bB_yes qa]
    obtain ⟨ka0, ka1, ka2, ka3, ka4, ka5, ka6, ka7⟩ := vec8 KA.out
    obtain ⟨kb0, kb1, kb2, kb3, kb4, kb5, kb6, kb7⟩ := vec8 KB.out
    go_wp2_with fail
    with_reducible refine (CB.out _ B2.out).mono ?_
    rintro e w3 ⟨rfl, b⟩
    have B3 := Lib.hid (below_then B2.out b)
    have KA := Lib.hid (blk_below b KA.out)
    have KB := Lib.hid (blk_below b KB.out)
    have KR := Lib.hid (blk_below b KR.out)
    clear b
    clear ka0 ka1 ka2 ka3 ka4 ka5 ka6 ka7 kb0 kb1 kb2 kb3 kb4 kb5 kb6 kb7
    by_cases qb : ValidV VB
    · rw [bB_yes qb]
      obtain ⟨ka0, ka1, ka2, ka3, ka4, ka5, ka6, ka7⟩ := vec8 KA.out
      obtain ⟨kb0, kb1, kb2, kb3, kb4, kb5, kb6, kb7⟩ := vec8 KB.out
      go_wp2_with fail
      with_reducible refine (SA.out _ B3.out qa).mono ?_
      rintro e w4 ⟨sx, cx, rfl, hsx, b⟩
      have B4 := Lib.hid (below_then B3.out b)
      have KA := Lib.hid (blk_below b KA.out)
      have KB := Lib.hid (blk_below b KB.out)
      have KR := Lib.hid (blk_below b KR.out)
      have SX := Lib.hid hsx
      clear b hsx
      clear ka0 ka1 ka2 ka3 ka4 ka5 ka6 ka7 kb0 kb1 kb2 kb3 kb4 kb5 kb6 kb7
      obtain ⟨ka0, ka1, ka2, ka3, ka4, ka5, ka6, ka7⟩ := vec8 KA.out
      obtain ⟨kb0, kb1, kb2, kb3, kb4, kb5, kb6, kb7⟩ := vec8 KB.out
      go_wp2_with fail
      with_reducible refine (SB.out _ B4.out qb).mono ?_
      rintro e w5 ⟨sy, cy, rfl, hsy, b⟩
      have B5 := Lib.hid (below_then B4.out b)
      have KA := Lib.hid (blk_below b KA.out)
      have KB := Lib.hid (blk_below b KB.out)
      have KR := Lib.hid (blk_below b KR.out)
      have SY := Lib.hid hsy
      clear b hsy
      clear ka0 ka1 ka2 ka3 ka4 ka5 ka6 ka7 kb0 kb1 kb2 kb3 kb4 kb5 kb6 kb7
      have c40 := cntL_le qa
      have d40 := cntL_le qb
      go_wp2_with fail
      with_reducible refine (specSize (cntL VA) (cntL VB) _ (by omega) (by omega)).mono ?_
      rintro e w5' ⟨rfl, rfl⟩
      go_wp2_with fail
      obtain ⟨w6, hw6⟩ : ∃ W, w5.alloc (.cells #[.string ⟨#[43]⟩, .string ⟨#[45]⟩, .string ⟨#[42]⟩, .string ⟨#[47]⟩, .string ⟨#[94]⟩, .string ⟨#[37, 37]⟩, .string ⟨#[37, 47, 37]⟩] 9) = W := ⟨_, rfl⟩
      have B6 := Lib.hid (show Below w.heap.size w w6 from hw6 ▸ B5.out.alloc B5.out.size _)
      have KO := Lib.hid (show w6.heap[w5.heap.size]? = some (.cells #[.string ⟨#[43]⟩, .string ⟨#[45]⟩, .string ⟨#[42]⟩, .string ⟨#[47]⟩, .string ⟨#[94]⟩, .string ⟨#[37, 37]⟩, .string ⟨#[37, 47, 37]⟩] 9 (0, 0)) from hw6 ▸ blk_new w5 _ rfl)
      have KA := Lib.hid (show w6.heap[w.heap.size]? = some (.cells #[.int .i64 k0, .slice ai0 items0.length ci0, .slice ap0 parts0.length cp0, .slice an0 names0.length cn0, .slice ac0 cls0.length cc0, .slice al0 lev0.length cl0, .int .i64 code0, .int .i64 env0] 31 (0, 0)) from hw6 ▸ blk_old KA.out)
      have KB := Lib.hid (show w6.heap[w.heap.size + 1]? = some (.cells #[.int .i64 k1, .slice ai1 items1.length ci1, .slice ap1 parts1.length cp1, .slice an1 names1.length cn1, .slice ac1 cls1.length cc1, .slice al1 lev1.length cl1, .int .i64 code1, .int .i64 env1] 31 (0, 0)) from hw6 ▸ blk_old KB.out)
      have KR := Lib.hid (show w6.heap[w.heap.size + 1 + 1]? = some (.cells #[.int .i64 0, .slice none 0 0, .slice none 0 0, .slice none 0 0, .slice none 0 0, .slice none 0 0, .int .i64 0, .int .i64 0] 31 (0, 0)) from hw6 ▸ blk_old KR.out)
      rw [hw6]
      clear hw6
      have HS := Lib.hid (specHas op w6 w5.heap.size 7 7 (by omega) opA (fun i hi => by
        refine cellOf KO.out ?_
        rcases (show i = 0 ∨ i = 1 ∨ i = 2 ∨ i = 3 ∨ i = 4 ∨ i = 5 ∨ i = 6 by omega) with rfl | rfl | rfl | rfl | rfl | rfl | rfl <;> rfl))
      have QQ := Lib.hid (And.intro qa qb)
      rcases idx_cases op with ⟨i, hi7, hop, hix⟩ | ⟨hop, hix⟩
      · rw [has_yes hi7 hop] at HS
        have EI := Lib.hid hix
        have HI := Lib.hid hi7
        subst hop
        clear hix hi7
        with_reducible refine HS.out.mono ?_
        rintro e w6' ⟨rfl, rfl⟩
        by_cases hc : Counts VA ∧ Counts VB
        · rw [bB_yes hc.1, bB_yes hc.2]
          rw [cntL_yes hc.1] at c40
          rw [cntL_yes hc.2] at d40
          rw [cntL_yes hc.1, cntL_yes hc.2]
          have CC := Lib.hid hc
          have hz' : sizeL (itL VA) (itL VB) = lgcN VA VB := rfl
          rw [hz']
          by_cases hz : 0 ≤ lgcN VA VB
          · have XX := Lib.hid (ari_yes (i := i) QQ.out hc hz)
            have PZ := Lib.hid (fun (h : 0 < lgcN VA VB) => sizeL_pos h)
            have N40 : lgcN VA VB ≤ 40 := sizeL_le c40 d40
            obtain ⟨k1', x2, x3, x4, x5, x6, x7, x8, x9, x10, x11, x12, x13, x14, x15, hval⟩ := SX.out hc.1
            obtain ⟨k2', y2, y3, y4, y5, y6, y7, y8, y9, y10, y11, y12, y13, y14, y15, hval2⟩ := SY.out hc.2
            simp only [Value.agg.injEq, Array.mk.injEq, List.cons.injEq, Value.slice.injEq, and_true] at hval hval2
            obtain ⟨-, ⟨rfl, -, rfl⟩, -⟩ := hval
            obtain ⟨-, ⟨rfl, -, rfl⟩, -⟩ := hval2
            have GA := Lib.hid (QA.out qa hc.1)
            have GB := Lib.hid (QB.out qb hc.2)
            have L0 := Lib.hid (LA.out qa hc.1)
            have L1 := Lib.hid (LB.out qb hc.2)
            obtain ⟨N, hN⟩ : ∃ N : Nat, lgcN VA VB = N := ⟨(lgcN VA VB).toNat, by omega⟩
            rw [hN] at XX PZ N40 ⊢
            rw [EA.out, EB.out] at XX PZ
            rw [EA.out] at c40
            rw [EB.out] at d40
            rw [EA.out, EB.out]
            rw [IA.out, IB.out, NA.out, NB.out, Int.toNat_natCast] at XX
            have NMN := Lib.hid (fun (w1 : World) (hb : Below w.heap.size w w1) => (by have h := NM.out N w1 hb; rw [L0.out, L1.out, EA.out, EB.out] at h; exact h))
            clear hz hN hz' hc qa qb SX SY NM CA CB SA SB BD L0 L1 LA LB QA QB
            obtain ⟨ka0, ka1, ka2, ka3, ka4, ka5, ka6, ka7⟩ := vec8 KA.out
            obtain ⟨kb0, kb1, kb2, kb3, kb4, kb5, kb6, kb7⟩ := vec8 KB.out
            go_wp2_with fail
            with_reducible refine (NMN.out _ B6.out).mono ?_
            rintro e w7 ⟨⟨v', rfl, hcp⟩, hb⟩
            obtain ⟨na, nc, Fn, rfl, hT, hnd, hrg, hcap⟩ := hcp
            have KR7 := Lib.hid (blk_below hb KR.out)
            have B7 := Lib.hid (below_then B6.out hb)
            have hr6 := (Array.getElem?_eq_some_iff.1 KR.out).1
            obtain ⟨nms, hnms⟩ : ∃ l, namesL items0.length items1.length N names0 names1 = l := ⟨_, rfl⟩
            rw [hnms] at hT hcap XX ⊢
            obtain ⟨m, hm⟩ : ∃ m, items0.length = m := ⟨_, rfl⟩
            obtain ⟨n, hn⟩ : ∃ n, items1.length = n := ⟨_, rfl⟩
            rw [hm] at XX PZ c40 IX GA ⊢
            rw [hn] at XX PZ d40 IY GB ⊢
            have S0 := Lib.hid (show AppN w (w7.alloc (.cells #[.int .i64 2, .slice none 0 0, .slice none 0 0, .slice na nms.length nc, .slice none 0 0, .slice none 0 0, .int .i64 0, .int .i64 0] 31)) (w.heap.size + 1 + 1) w7.heap.size 2 (itF (fun j => fnA i (items0.getD (j % m) noI) (items1.getD (j % n) noI)) 0) none 0 0 nms na nc Fn from
              ⟨blk_old KR7.out, blk_new w7 _ rfl, ⟨rfl, .inl ⟨rfl, rfl⟩⟩, hT.kept (fun g hg => (below1 w7 _).block g (hrg g hg).2), hcap, hnd, fun g hg => by have h1 := hrg g hg; have h2 := B6.out.size; exact ⟨by omega, by omega, by omega⟩, B7.out.alloc B7.out.size _, by omega, (Array.getElem?_eq_some_iff.1 KR7.out).1⟩)
            clear hm hn hnms hT hnd hrg hcap hb
            clear ka0 ka1 ka2 ka3 ka4 ka5 ka6 ka7 kb0 kb1 kb2 kb3 kb4 kb5 kb6 kb7
            go_wp2
            obtain ⟨b, hb⟩ : ∃ b, w7.heap.size = b := ⟨_, rfl⟩
            rw [hb] at S0 ⊢
            clear hb
            go_loopw [14] (fun i' wr => ∃ (k : Nat) (sa : Option Addr) (sn sc : Nat), k ≤ N ∧ i' = .int .i64 k ∧ AppN w wr (w.heap.size + 1 + 1) b 2 (itF (fun j => fnA i (items0.getD (j % m) noI) (items1.getD (j % n) noI)) k) sa sn sc nms na nc Fn) (fun i _ => N - (intOf i).toNat)
            case atStart => exact ⟨0, none, 0, 0, Nat.zero_le _, rfl, S0.out⟩
            case round =>
              obtain ⟨k, sa, sn, sc, hk, rfl, hap⟩ := hrel
              have AP := Lib.hid hap
              clear hap
              by_cases hlt : k < N
              · obtain ⟨hm0, hn0⟩ := PZ.out (by omega)
                obtain ⟨bx, ox, rfl, hbx', cx0, cx1, cx2⟩ := IX.out (k % m) (Nat.mod_lt k hm0)
                obtain ⟨bY, oy, rfl, hby', cy0, cy1, cy2⟩ := IY.out (k % n) (Nat.mod_lt k hn0)
                have hbx : bx < w.heap.size := by omega
                have hby : bY < w.heap.size := by omega
                have CX0 := Lib.hid cx0
                have CX1 := Lib.hid cx1
                have CX2 := Lib.hid (show w.cell? ⟨bx, ox + (k % m) * 3 + 2, none⟩ = some (.string (items0.getD (k % m) noI).t) from cx2)
                have CY0 := Lib.hid cy0
                have CY1 := Lib.hid cy1
                have CY2 := Lib.hid (show w.cell? ⟨bY, oy + (k % n) * 3 + 2, none⟩ = some (.string (items1.getD (k % n) noI).t) from cy2)
                have CO := Lib.hid (fun W => specApply i HI.out (items0.getD (k % m) noI) (items1.getD (k % n) noI) W (GA.out (k % m) (Nat.mod_lt k hm0)).t0 (GB.out (k % n) (Nat.mod_lt k hn0)).t0)
                have LN := Lib.hid (show (itF (fun j => fnA i (items0.getD (j % m) noI) (items1.getD (j % n) noI)) k).length ≤ 1048576 by rw [itF_len]; omega)
                have NX := Lib.hid (itF_succ (fun j => fnA i (items0.getD (j % m) noI) (items1.getD (j % n) noI)) k)
                clear cx0 cx1 cx2 cy0 cy1 cy2
                go_upto_region 16 with (fail)
                have H := Lib.hid AP.out.heldC
                refine run_region (ops := (opsOf Try.f23 16)) (S := fun w' => HeldC w w' ([((w.heap.size + 1 + 1), 31, #[.int .i64 0, .slice none 0 0, .slice none 0 0, .slice none 0 0, .slice none 0 0, .slice none 0 0, .int .i64 0, .int .i64 0]), (b, 31, #[.int .i64 2, .slice sa sn sc, .slice none 0 0, .slice na nms.length nc, .slice none 0 0, .slice none 0 0, .int .i64 0, .int .i64 0])])) [(0, true), (1, true), (2, true), (3, true), (4, true), (5, true), (6, true), (7, true), (8, true), (9, true), (10, true), (11, true), (12, true), (13, true), (14, true), (15, true), (16, true), (17, false), (18, false), (19, false), (20, true), (21, false)] (by kernel_rfl) (by kernel_rfl) (by kernel_rfl) (by kernel_rfl) (by kernel_rfl) (fun _ _ _ _ _ h => h) (heldC_drew H.out) ?_
                have H := Lib.hid (heldC_drew H.out)
                have AP := Lib.hid (AP.out.keep (below_drew' (Below.refl _ _)))
                have W0 := Lib.hid (show w.heap.size ≤ b + 1 by have := AP.out.o1; have := AP.out.o2; omega)
                have B0' := Lib.hid (show w.heap.size ≤ b by have := AP.out.o1; have := AP.out.o2; omega)
                have FAR := Lib.hid (show ∀ q ∈ ([((w.heap.size + 1 + 1), 31, #[.int .i64 0, .slice none 0 0, .slice none 0 0, .slice none 0 0, .slice none 0 0, .slice none 0 0, .int .i64 0, .int .i64 0]), (b, 31, #[.int .i64 2, .slice sa sn sc, .slice none 0 0, .slice na nms.length nc, .slice none 0 0, .slice none 0 0, .int .i64 0, .int .i64 0])] : List (Nat × TypeId × Array Value)), ∀ j, (Value.slice sa sn sc).ownBlock = some j → q.1 ≠ j from fun q hq j hj => by
                  have h1 := (AP.out.row.lt j hj).1
                  have h2 := AP.out.o2
                  rcases List.mem_cons.1 hq with rfl | hq
                  · simp only; omega
                  · obtain rfl := List.mem_singleton.1 hq
                    simp only; omega)
                refine runC_partV (b := b) (by kernel_rfl) (show opAt (opsOf Try.f23 16) 0 = some (some 69, .fieldAddr 31 (.tmp 13) 1, none) from by kernel_rfl) (by kernel_rfl) (by kernel_rfl) (by kernel_rfl) ?_
                refine runC_cell (b := b) (j := 1) (v := .slice sa sn sc) load_its (show opAt (opsOf Try.f23 16) 1 = some (some 70, .load 28 (.tmp 69), none) from by kernel_rfl) (by kernel_rfl) (by kernel_rfl) (by kernel_rfl) (List.Mem.tail _ (List.Mem.head _)) rfl ?_
                refine run_mov (v := .string (opA i)) (show opAt (opsOf Try.f23 16) 2 = some (some 71, .move (.tmp 0), none) from by kernel_rfl) (by kernel_rfl) (by kernel_rfl) (by kernel_rfl) ?_
                refine run_mov (v := .slice (some ⟨bx, ox, none⟩) m ci0) (show opAt (opsOf Try.f23 16) 3 = some (some 72, .move (.tmp 8), none) from by kernel_rfl) (by kernel_rfl) (by kernel_rfl) (by kernel_rfl) ?_
                refine run_mov (v := .int .i64 ((k : Int))) (show opAt (opsOf Try.f23 16) 4 = some (some 73, .move (.tmp 14), none) from by kernel_rfl) (by kernel_rfl) (by kernel_rfl) (by kernel_rfl) ?_
                refine run_mov (v := .slice (some ⟨bx, ox, none⟩) m ci0) (show opAt (opsOf Try.f23 16) 5 = some (some 74, .move (.tmp 8), none) from by kernel_rfl) (by kernel_rfl) (by kernel_rfl) (by kernel_rfl) ?_
                refine run_len (b := (some ⟨bx, ox, none⟩)) (n := m) (c := ci0) (show opAt (opsOf Try.f23 16) 6 = some (some 75, .call { callee := .builtin .len, args := [(.tmp 74)].toArray, argTypes := [28].toArray }, none) from by kernel_rfl) (by kernel_rfl) (by kernel_rfl) (by kernel_rfl) (by kernel_rfl) ?_
                refine run_rem (k := .i64) (p := (k : Int)) (q := (m : Int)) (z := ((k % m : Nat) : Int)) (show opAt (opsOf Try.f23 16) 7 = some (some 76, .binOp .rem 3 (.tmp 73) (.tmp 75) 3, none) from by kernel_rfl) (by kernel_rfl) (by kernel_rfl) (by kernel_rfl) (by kernel_rfl) ⟨by omega, rfl⟩ ?_
                refine run_idx3 (n := m) (c := ci0) (b := bx) (off := ox) (k := (k % m)) (show opAt (opsOf Try.f23 16) 8 = some (some 77, .indexAddr 28 (.tmp 72) (.tmp 76), none) from by kernel_rfl) (by kernel_rfl) (by kernel_rfl) (by kernel_rfl) (by kernel_rfl) (Nat.mod_lt k hm0) ?_
                refine runC_oldI (b := bx) (j := ox + (k % m) * 3) (z := (items0.getD (k % m) noI)) (show opAt (opsOf Try.f23 16) 9 = some (some 78, .load 66 (.tmp 77), none) from by kernel_rfl) (by kernel_rfl) (by kernel_rfl) (by kernel_rfl) hbx CX0.out CX1.out CX2.out ?_
                refine run_mov (v := .slice (some ⟨bY, oy, none⟩) n ci1) (show opAt (opsOf Try.f23 16) 10 = some (some 79, .move (.tmp 10), none) from by kernel_rfl) (by kernel_rfl) (by kernel_rfl) (by kernel_rfl) ?_
                refine run_mov (v := .int .i64 ((k : Int))) (show opAt (opsOf Try.f23 16) 11 = some (some 80, .move (.tmp 14), none) from by kernel_rfl) (by kernel_rfl) (by kernel_rfl) (by kernel_rfl) ?_
                refine run_mov (v := .slice (some ⟨bY, oy, none⟩) n ci1) (show opAt (opsOf Try.f23 16) 12 = some (some 81, .move (.tmp 10), none) from by kernel_rfl) (by kernel_rfl) (by kernel_rfl) (by kernel_rfl) ?_
                refine run_len (b := (some ⟨bY, oy, none⟩)) (n := n) (c := ci1) (show opAt (opsOf Try.f23 16) 13 = some (some 82, .call { callee := .builtin .len, args := [(.tmp 81)].toArray, argTypes := [28].toArray }, none) from by kernel_rfl) (by kernel_rfl) (by kernel_rfl) (by kernel_rfl) (by kernel_rfl) ?_
                refine run_rem (k := .i64) (p := (k : Int)) (q := (n : Int)) (z := ((k % n : Nat) : Int)) (show opAt (opsOf Try.f23 16) 14 = some (some 83, .binOp .rem 3 (.tmp 80) (.tmp 82) 3, none) from by kernel_rfl) (by kernel_rfl) (by kernel_rfl) (by kernel_rfl) (by kernel_rfl) ⟨by omega, rfl⟩ ?_
                refine run_idx3 (n := n) (c := ci1) (b := bY) (off := oy) (k := (k % n)) (show opAt (opsOf Try.f23 16) 15 = some (some 84, .indexAddr 28 (.tmp 79) (.tmp 83), none) from by kernel_rfl) (by kernel_rfl) (by kernel_rfl) (by kernel_rfl) (by kernel_rfl) (Nat.mod_lt k hn0) ?_
                refine runC_oldI (b := bY) (j := oy + (k % n) * 3) (z := (items1.getD (k % n) noI)) (show opAt (opsOf Try.f23 16) 16 = some (some 85, .load 66 (.tmp 84), none) from by kernel_rfl) (by kernel_rfl) (by kernel_rfl) (by kernel_rfl) hby CY0.out CY1.out CY2.out ?_
                refine run_call (args := [.string (opA i), .agg #[.int .i64 (items0.getD (k % m) noI).n, .int .i64 (items0.getD (k % m) noI).d, .string (items0.getD (k % m) noI).t], .agg #[.int .i64 (items1.getD (k % n) noI).n, .int .i64 (items1.getD (k % n) noI).d, .string (items1.getD (k % n) noI).t]]) (show opAt (opsOf Try.f23 16) 17 = some (some 86, .call { callee := .value (.func 78), args := [(.tmp 71), (.tmp 78), (.tmp 85)].toArray, argTypes := [9, 66, 66].toArray }, none) from by kernel_rfl) (by kernel_rfl) (by kernel_rfl) (by kernel_rfl) (by kernel_rfl) ?_
                refine (CO.out _).mono ?_
                rintro en rw1 ⟨rfl, hb⟩
                refine ⟨_, rfl, heldC_call H.out hb, ?_⟩
                have H := Lib.hid (heldC_call H.out hb)
                have AP := Lib.hid (AP.out.keep hb)
                clear hb
                refine tail_item2 (fnA i (items0.getD (k % m) noI) (items1.getD (k % n) noI)) (show opAt (opsOf Try.f23 16) 18 = some (some 87, .buildSlice 28 1 #[(0, (.tmp 86))], none) from by kernel_rfl) (by kernel_rfl) (by kernel_rfl) (show opAt (opsOf Try.f23 16) 19 = some (some 88, .call { callee := .builtin .append, args := [(.tmp 70), (.tmp 87)].toArray, argTypes := [28, 28].toArray }, none) from by kernel_rfl) (by kernel_rfl) (fun _ => by kernel_rfl) (show opAt (opsOf Try.f23 16) 20 = some (some 89, .fieldAddr 31 (.tmp 13) 1, none) from by kernel_rfl) (by kernel_rfl) (by kernel_rfl) (fun _ _ => by kernel_rfl) (show opAt (opsOf Try.f23 16) 21 = some (none, .store 28 (.tmp 89) (.tmp 88), none) from by kernel_rfl) (by kernel_rfl) (by kernel_rfl) H.out AP.out.row LN.out (Nat.succ_le_of_lt AP.out.big) W0.out (List.Mem.tail _ (List.Mem.head _)) rfl (Nat.lt_succ_self _) B0'.out (fun q hq => FAR.out q hq) ?_
                rintro v' W8 ⟨sa, sn, sc, rfl⟩ hK hO hB hZ hR hG
                simp only [putAll, Act.put, List.setIfInBounds_toArray, List.set_cons_zero, List.set_cons_succ]
                have AN := Lib.hid (AP.out.next hK hO hB (hR _ (List.Mem.head _) (by have := AP.out.o2; simp only; omega)) (fun g hg => hG g (by have := AP.out.rng g hg; have := AP.out.big; omega) (by have := AP.out.rng g hg; omega) (fun j hj => by have := (AP.out.row.lt j hj).1; have := AP.out.rng g hg; omega)))
                clear hK hO hB hR hG H FAR LN
                go_wp2
                go_roundw
                case rel => exact ⟨k + 1, sa, sn, sc, by omega, by go_num, NX.out ▸ AN.out⟩
                case measure => simp [intOf]; omega
              · obtain rfl : k = N := by omega
                have K1 := Lib.hid AP.out.vec
                have K0 := Lib.hid AP.out.res
                have FN := Lib.hid AP.out.fin
                obtain ⟨k0', k1', k2', k3', k4', k5', k6', k7'⟩ := vec8 K1.out
                obtain ⟨z0, z1, z2, z3, z4, z5, z6, z7⟩ := vec8 K0.out
                obtain ⟨f0, f1, f2, f3, f4, f5, f6, f7⟩ := free8 K0.out
                go_wp2
                rw [EI.out, XX.out.1, XX.out.2]
                exact vec_endS rfl rfl rfl rfl K0.out FN.out.withS
          · have XX := Lib.hid (ari_len (i := i) QQ.out hc hz)
            obtain ⟨z, hzz⟩ : ∃ z, lgcN VA VB = z := ⟨_, rfl⟩
            rw [hzz] at hz ⊢
            have hzn : z < 0 := by omega
            clear hz hzz hz' hc qa qb
            obtain ⟨z0, z1, z2, z3, z4, z5, z6, z7⟩ := vec8 KR.out
            obtain ⟨f0, f1, f2, f3, f4, f5, f6, f7⟩ := free8 KR.out
            go_wp2
            rw [EI.out, XX.out.1, XX.out.2]
            exact vec_endS rfl rfl rfl rfl KR.out (zeroS _ w _ (put8_below B6.out (show w.heap.size ≤ w.heap.size + 1 + 1 by omega)))
        · have XX := Lib.hid (ari_non (i := i) QQ.out hc)
          obtain ⟨z, hzz⟩ : ∃ z, sizeL (cntL VA) (cntL VB) = z := ⟨_, rfl⟩
          rw [hzz]
          have hcc : bB (Counts VA) = false ∨ (bB (Counts VA) = true ∧ bB (Counts VB) = false) := by
            by_cases h : Counts VA
            · exact .inr ⟨bB_yes h, bB_no (fun k => hc ⟨h, k⟩)⟩
            · exact .inl (bB_no h)
          clear hc hzz qa qb
          rcases hcc with hcc | ⟨hcc, hcc2⟩
          · rw [hcc]
            clear hcc
            obtain ⟨z0, z1, z2, z3, z4, z5, z6, z7⟩ := vec8 KR.out
            obtain ⟨f0, f1, f2, f3, f4, f5, f6, f7⟩ := free8 KR.out
            go_wp2
            rw [EI.out, XX.out.1, XX.out.2]
            exact vec_endS rfl rfl rfl rfl KR.out (zeroS _ w _ (put8_below B6.out (show w.heap.size ≤ w.heap.size + 1 + 1 by omega)))
          · rw [hcc, hcc2]
            clear hcc hcc2
            obtain ⟨z0, z1, z2, z3, z4, z5, z6, z7⟩ := vec8 KR.out
            obtain ⟨f0, f1, f2, f3, f4, f5, f6, f7⟩ := free8 KR.out
            go_wp2
            rw [EI.out, XX.out.1, XX.out.2]
            exact vec_endS rfl rfl rfl rfl KR.out (zeroS _ w _ (put8_below B6.out (show w.heap.size ≤ w.heap.size + 1 + 1 by omega)))
      · rw [has_no hop] at HS
        have EI := Lib.hid hix
        have XX := Lib.hid (ari_unk QQ.out)
        clear hix hop qa qb
        with_reducible refine HS.out.mono ?_
        rintro e w6' ⟨rfl, rfl⟩
        obtain ⟨z0, z1, z2, z3, z4, z5, z6, z7⟩ := vec8 KR.out
        obtain ⟨f0, f1, f2, f3, f4, f5, f6, f7⟩ := free8 KR.out
        go_wp2
        rw [EI.out, XX.out.1, XX.out.2]
        exact vec_endS rfl rfl rfl rfl KR.out (zeroS _ w _ (put8_below B6.out (show w.heap.size ≤ w.heap.size + 1 + 1 by omega)))
    · rw [bB_no qb]
      have XX := Lib.hid (ari_bad (oi := idxA op) (fun h : ValidV VA ∧ ValidV VB => qb h.2))
      clear qa qb
      go_wp2_with fail
      with_reducible refine (BD.out _).mono ?_
      rintro e w9 ⟨rfl, b⟩
      have B9 := Lib.hid (below_then B3.out b)
      have K0 := Lib.hid (blk_below b KR.out)
      clear b
      obtain ⟨z0, z1, z2, z3, z4, z5, z6, z7⟩ := vec8 K0.out
      obtain ⟨f0, f1, f2, f3, f4, f5, f6, f7⟩ := free8 K0.out
      go_wp2
      rw [XX.out.1, XX.out.2]
      exact vec_endS rfl rfl rfl rfl K0.out (zeroS _ w _ (put8_below B9.out (show w.heap.size ≤ w.heap.size + 1 + 1 by omega)))
  · rw [bB_no qa]
    have XX := Lib.hid (ari_bad (oi := idxA op) (fun h : ValidV VA ∧ ValidV VB => qa h.1))
    clear qa
    go_wp2_with fail
    with_reducible refine (BD.out _).mono ?_
    rintro e w9 ⟨rfl, b⟩
    have B9 := Lib.hid (below_then B2.out b)
    have K0 := Lib.hid (blk_below b KR.out)
    clear b
    obtain ⟨z0, z1, z2, z3, z4, z5, z6, z7⟩ := vec8 K0.out
    obtain ⟨f0, f1, f2, f3, f4, f5, f6, f7⟩ := free8 K0.out
    go_wp2
    rw [XX.out.1, XX.out.2]
    exact vec_endS rfl rfl rfl rfl K0.out (zeroS _ w _ (put8_below B9.out (show w.heap.size ≤ w.heap.size + 1 + 1 by omega)))
end Go.Proofs.Ytlnjjjoeblopeaa

/- Laws on two vectors: what a region that calls on both keeps. -/
namespace Go.Proofs.Ytlnjjjoeblopeaa
set_option maxRecDepth 100000
open Go.RowKit
set_option linter.unusedVariables false

/-- A vector that may be read. -/
structure VatH (d : Nat) (v : Vec) (y : Value) (w : World) : Prop where
  out : VecAt 0 w.heap.size w d v y
theorem VatH.keep {d : Nat} {v : Vec} {y : Value} {w w1 : World} (h : VatH d v y w) (hb : Below w.heap.size w w1) : VatH d v y w1 := ⟨VecAt.wide (Nat.le_refl _) hb.size _ _ _ (h.out.below hb (Nat.le_refl _))⟩
theorem ResV.vatH {d : Nat} {v : Vec} {y : Value} {lo : Nat} {w : World} (h : Own d v y lo w.heap.size w) : VatH d v y w := ⟨h.vat (Nat.le_refl _)⟩
/-- A vector of one's own in a range, kept. -/
structure OwnH (d : Nat) (V : Vec) (y : Value) (lo hi : Nat) (w : World) : Prop where
  own : Own d V y lo hi w
  hh : hi ≤ w.heap.size
theorem OwnH.keep {d : Nat} {V : Vec} {y : Value} {lo hi : Nat} {w w1 : World} (h : OwnH d V y lo hi w) (hb : Below w.heap.size w w1) : OwnH d V y lo hi w1 := ⟨h.own.below hb h.hh, Nat.le_trans h.hh hb.size⟩
theorem Own.rowO {d : Nat} {V : Vec} {y : Value} {lo hi g : Nat} {c : Array Value} {w : World} (h : Own d V y lo hi w) (hg : g < lo ∨ hi ≤ g) : Own d V y lo hi (w.setRow g c) := by
  obtain ⟨F, q1, q2, q3⟩ := h.out
  exact ⟨F, q1.kept _ _ _ _ (fun b hb => row_old rfl (by have := q3 b hb; omega)), q2, q3⟩
/-- A vector that was made and put into a variable of its own. -/
structure MadeU (V : Vec) (wk wx : World) (g : Nat) (C : Array Value) : Prop where
  blk : wx.heap[g]? = some (.cells C 31 (0, 0))
  own : Own 1 V (.agg C) wk.heap.size wx.heap.size wx
  below : Below wk.heap.size wk wx
  lo : wk.heap.size ≤ g
theorem MadeU.cells {V : Vec} {wk wx : World} {g : Nat} {C : Array Value} (h : MadeU V wk wx g C) : ∃ (k : Int) (a1 : Option Addr) (n1 m1 : Nat) (a2 : Option Addr) (n2 m2 : Nat) (a3 : Option Addr) (n3 m3 : Nat) (a4 : Option Addr) (n4 m4 : Nat) (a5 : Option Addr) (n5 m5 : Nat) (code env : Int), C = #[.int .i64 k, .slice a1 n1 m1, .slice a2 n2 m2, .slice a3 n3 m3, .slice a4 n4 m4, .slice a5 n5 m5, .int .i64 code, .int .i64 env] := by
  obtain ⟨k, a1, n1, m1, a2, n2, m2, a3, n3, m3, a4, n4, m4, a5, n5, m5, c, e, h'⟩ := h.own.agg
  simp only [Value.agg.injEq] at h'
  exact ⟨k, a1, n1, m1, a2, n2, m2, a3, n3, m3, a4, n4, m4, a5, n5, m5, c, e, h'⟩
section
variable {P : Program} {ops : Array Oper} {Q : Exit → Act → World → Prop} {S : World → Prop}
variable {r : List (Nat × Bool)} {a : Act} {e : List (Nat × Value)} {w : World} {i d : Nat} {g : Option (Nat × Bool)} {v : Value}
/-- A part of a call's several results. -/
theorem run_extract {x : Operand} {k : Nat} {vs : Array Value} (ho : opAt ops i = some (some d, .extract x k, g)) (hd : Nat.blt d a.tmps.size = true) (hw : wantE ops a e g = some true)
    (hx : lookO a e x = .tuple vs) (hv : vs[k]? = some v) (h : RunE P ops Q S r a ((d, v) :: e) w) : RunE P ops Q S ((i, true) :: r) a e w :=
  run_yield ho hd hw (fun o w' h1 _ => by
    unfold execOp; rw [h1]; simp only [hx]
    refine run_v ?_
    unfold Instr.extract
    simp only [hv]
    rfl) h
end
/-- A mark that goes on from k. -/
theorem markOwnK (d : Nat) (V : Vec) (y : Value) (k : Nat) (lo hi : Nat) (w : World) (h : Own d V y lo hi w) (hh : hi ≤ w.heap.size) (hs : Small d V) (hk : 1 ≤ k) (hc : k + cntM d V ≤ 8000000) :
    Calls Try.prog 19 #[y, .int .i64 k] w fun e w' => e = .returned (.int .i64 ((k + cntM d V : Nat) : Int)) ∧ Within lo hi w w' := by
  obtain ⟨F, h1, h2, h3⟩ := h.out
  refine (markVec d V y k F w h1 h2 (fun b hb => by have := h3 b hb; omega) hs hk hc).mono ?_
  rintro e w' ⟨rfl, ho, t⟩
  exact ⟨rfl, t.within h3⟩
end Go.Proofs.Ytlnjjjoeblopeaa
