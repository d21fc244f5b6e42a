/- A region that draws its order, walked by one order that is checked at once; the frame is kept as a list of what was put. -/
import Derived.Test.YtikgcogiiohahaaGreatDoorRows
import Derived.Test.YtikgcogiiohahaaGreatDoorNumKit
import Derived.Test.YtikgcogiiohahaaGreatDoorHeld
import Derived.Deep.RegionHeld
import Derived.WalkKit
import Derived.Lib.Hide
namespace Go.Proofs.YtikgcogiiohahaaGreatDoor
set_option maxRecDepth 100000
open Go.RowKit
set_option linter.unusedVariables false

def findR (k : Nat) : Code → Option (Array Oper)
  | .region id ops _ => match Nat.beq id k with | true => some ops | false => none
  | .seq a b => match findR k a with | some r => some r | none => findR k b
  | .cond _ a b => match findR k a with | some r => some r | none => findR k b
  | .block _ b => findR k b
  | .loop b => findR k b
  | _ => none
/-- The operations of a function's region. -/
def opsOf (f : Func) (k : Nat) : Array Oper := match f.body with | some c => (findR k c).getD #[] | none => #[]

section
variable {P : Program} {ops : Array Oper} {Q : Exit → Act → World → Prop} {S : World → Prop}

/-- May the operations come up in this order? (i, true): it is taken first; (i, false): nothing else may come up. -/
def schedOK (ops : Array Oper) : List (Nat × Bool) → Array Bool → Bool
  | [], listed => (Region.ready .any ops listed).isEmpty
  | (i, true) :: r, listed => Region.free .any ops listed i && (Region.ready .any ops listed).contains i && schedOK ops r (listed.setIfInBounds i true)
  | (i, false) :: r, listed => (Region.ready .any ops listed == [i]) && schedOK ops r (listed.setIfInBounds i true)

/-- Does operation i wait for all the others? -/
def lastK (ops : Array Oper) (i : Nat) : Bool := match ops[i]? with
  | none => false
  | some o => (List.range ops.size).all fun j => Nat.beq j i || o.after.any (fun e => Region.binds .any e && Nat.beq e.on j)
theorem lastK_spec {ops : Array Oper} {k j : Nat} {listed : Array Bool} (h : lastK ops k = true) (hr : k ∈ Region.ready .any ops listed) (hj : j < ops.size) (hne : j ≠ k) : listed.getD j false = true := by
  obtain ⟨_, o, ho, hall⟩ := mem_ready.1 hr
  unfold lastK at h
  rw [ho] at h
  have h1 := List.all_eq_true.1 h j (List.mem_range.2 hj)
  rcases (Bool.or_eq_true _ _).mp h1 with h2 | h2
  · exact absurd (Nat.eq_of_beq_eq_true h2) hne
  · obtain ⟨e, he, hb⟩ := Array.any_eq_true'.1 h2
    obtain ⟨h3, h4⟩ := (Bool.and_eq_true _ _).mp hb
    have := hall e he h3
    rwa [Nat.eq_of_beq_eq_true h4] at this
theorem ready_unlisted {ops : Array Oper} {i : Nat} {l : Array Bool} (h : i ∈ Region.ready .any ops l) : l.getD i false = false ∧ i < ops.size := by
  obtain ⟨h0, o, ho, _⟩ := mem_ready.1 h
  refine ⟨?_, (Array.getElem?_eq_some_iff.1 ho).1⟩
  rcases Nat.lt_or_ge i l.size with h' | h'
  · simp only [Array.getD_eq_getD_getElem?, Array.getElem?_eq_getElem h', Option.getD_some] at h0 ⊢; exact h0
  · simp [Array.getElem?_eq_none h']
/-- Behind an operation that waits for all the others nothing is left. -/
theorem lastK_none {ops : Array Oper} {k : Nat} {l : Array Bool} (h : lastK ops k = true) (hr : k ∈ Region.ready .any ops l) : Region.ready .any ops (l.setIfInBounds k true) = [] := by
  refine List.eq_nil_iff_forall_not_mem.2 fun j hj => ?_
  obtain ⟨h0, h1⟩ := ready_unlisted hj
  rcases Nat.decEq j k with hne | he
  · have h2 := getD_set_true (i := k) (lastK_spec h hr h1 hne)
    rw [h0] at h2; cases h2
  · subst he
    obtain ⟨h2, _⟩ := mem_ready.1 hj
    have h3 := (mem_ready.1 hr).1
    have hlt : j < l.size := by
      rcases Nat.lt_or_ge j l.size with h' | h'
      · exact h'
      · simp [Array.getElem?_eq_none h'] at h3
    simp [hlt] at h2
/-- Whatever order comes; S holds behind every operation that does not wait for all the others. -/
def wpAnyL (P : Program) (ops : Array Oper) (Q : Exit → Act → World → Prop) (S : World → Prop) : Nat → Array Bool → Act → World → Prop
  | 0, l, a, w => Region.ready .any ops l = [] ∧ Q .normal a w
  | n + 1, l, a, w => (Region.ready .any ops l = [] → Q .normal a w) ∧
    ∀ i ∈ Region.ready .any ops l, wpOp P ops Q i (fun a' w' => (lastK ops i = true ∨ S w') ∧ wpAnyL P ops Q S n (l.setIfInBounds i true) a' w') a w
theorem wpAny_of_L : ∀ (n : Nat) (l : Array Bool) (a : Act) (w : World), wpAnyL P ops Q S n l a w → wpAny P .any ops Q n l a w
  | 0, _, _, _, h => h
  | n + 1, _, _, _, h => ⟨h.1, fun i hi => wpOp_mono (fun a' w' h' => wpAny_of_L n _ a' w' h'.2) (h.2 i hi)⟩
theorem takeL {i : Nat} {oi : Oper} {v : Value} (hi : ops[i]? = some oi) (hs : Region.noSelect ops = true) (hQ : ∀ c a w, Q (.panic c) (a.put oi.dst v) w → Q (.panic c) a w) :
    ∀ (n : Nat) (l : Array Bool) (a : Act) (w : World), Region.free .any ops l i = true → i ∈ Region.ready .any ops l → YieldsIf P ops S oi v a → S w →
      wpAnyL P ops Q S n (l.setIfInBounds i true) (a.put oi.dst v) w → wpAnyL P ops Q S (n + 1) l a w := by
  have hsel := Region.noSelect_spec hs
  suffices H : ∀ (n : Nat) (l : Array Bool) (a : Act) (w : World), (∀ j oj, ops[j]? = some oj → j ≠ i → l.getD j true = false → (∀ e ∈ oj.after, Region.binds .any e = true → e.on ≠ i) → oi.apart ops oj = true) →
      i ∈ Region.ready .any ops l → YieldsIf P ops S oi v a → S w → wpAnyL P ops Q S n (l.setIfInBounds i true) (a.put oi.dst v) w → wpAnyL P ops Q S (n + 1) l a w from
    fun n l a w hf => H n l a w (Region.free_spec hi hf)
  intro n
  induction n with
  | zero =>
    intro l a w _ hr hy hS H
    refine ⟨fun h => (by rw [h] at hr; cases hr), fun j hj => ?_⟩
    rcases Nat.decEq j i with hji | hji
    · have h1 := ready_mono hj hji
      rw [H.1] at h1
      cases h1
    · subst hji; exact hy.wpOp hi hS ⟨.inr hS, H⟩
  | succ n ih =>
    intro l a w hfree hr hy hS H
    refine ⟨fun h => (by rw [h] at hr; cases hr), fun j hj => ?_⟩
    rcases Nat.decEq j i with hji | hji
    · obtain ⟨hui, hlt⟩ := ready_unlisted hr
      have hnl : ¬ lastK ops j = true := fun h => by have := lastK_spec h hj hlt (Ne.symm hji); rw [hui] at this; cases this
      obtain ⟨hjun, oj, hoj, hall⟩ := mem_ready.1 hj
      have hnot : ∀ e ∈ oj.after, Region.binds .any e = true → e.on ≠ i := fun e he hb heq => by
        have h1 := hall e he hb
        rw [heq, hui] at h1
        cases h1
      refine wpOp_mono (fun a' w' h3 => ?_) (wpOp_putIf hoj (hfree j oj hoj hji hjun hnot) (fun cs b => hsel i oi cs b hi) (fun cs b => hsel j oj cs b hoj) hQ hy (H.2 j (ready_mono hj hji)))
      obtain ⟨hy', hS', hW⟩ := h3
      refine ⟨hS', ih _ a' w' (fun k ok hk hki hun hno => hfree k ok hk hki ?_ hno) (ready_mono hr (Ne.symm hji)) hy' (hS'.resolve_left hnl) ?_⟩
      · rcases Nat.decEq j k with hjk | hjk
        · rwa [getD_set_ne true hjk] at hun
        · subst hjk; exact hjun
      · rw [Array.setIfInBounds_comm _ _ hji]; exact hW
    · subst hji; exact hy.wpOp hi hS ⟨.inr hS, H⟩

def seqH (P : Program) (ops : Array Oper) (Q : Exit → Act → World → Prop) (S : World → Prop) : List (Nat × Bool) → Act → World → Prop
  | [], a, w => Q .normal a w
  | (i, true) :: r, a, w => ∃ o v d, ops[i]? = some o ∧ o.dst = some d ∧ YieldsIf P ops S o v a ∧ seqH P ops Q S r (a.put (some d) v) w
  | (i, false) :: r, a, w => wpOp P ops Q i (fun a' w' => (lastK ops i = true ∨ S w') ∧ seqH P ops Q S r a' w') a w

theorem sched_nil {r : List (Nat × Bool)} {l : Array Bool} (h : schedOK ops r l = true) (hr : Region.ready .any ops l = []) : r = [] := by
  match r, h with
  | [], _ => rfl
  | (i, true) :: r, h => simp [schedOK, hr] at h
  | (i, false) :: r, h => simp [schedOK, hr] at h
theorem seq_sound (hs : Region.noSelect ops = true) (hQ : ∀ c a d v w, Q (.panic c) (Act.put a (some d) v) w → Q (.panic c) a w) :
    ∀ (r : List (Nat × Bool)) (listed : Array Bool) (a : Act) (w : World), schedOK ops r listed = true → (r = [] ∨ S w) → seqH P ops Q S r a w → wpAnyL P ops Q S r.length listed a w
  | [], listed, a, w, h, _, hq => ⟨List.isEmpty_iff.1 h, hq⟩
  | (i, true) :: r, listed, a, w, h, hS, hq => by
    simp only [schedOK, Bool.and_eq_true] at h
    obtain ⟨o, v, d, ho, hd, hy, hq⟩ := hq
    have hS := hS.resolve_left (by simp)
    exact takeL ho hs (fun c a w => by rw [hd]; exact hQ c a _ _ w) _ _ _ _ h.1.1 (by simpa using h.1.2) hy hS (by rw [hd]; exact seq_sound hs hQ r _ _ _ h.2 (.inr hS) hq)
  | (i, false) :: r, listed, a, w, h, hS, hq => by
    simp only [schedOK, Bool.and_eq_true, beq_iff_eq] at h
    refine ⟨fun h0 => absurd (h.1.symm.trans h0) (by simp), fun j hj => ?_⟩
    have hji := hj
    rw [h.1] at hji
    obtain rfl : j = i := by simpa using hji
    refine wpOp_mono (fun a' w' ⟨h1, h2⟩ => ⟨h1, seq_sound hs hQ r _ _ _ h.2 ?_ h2⟩) hq
    exact h1.imp (fun hl => sched_nil h.2 (lastK_none hl hj)) id

/-- The frame behind some puts, the newest first. -/
def putAll (a : Act) : List (Nat × Value) → Act
  | [] => a
  | (d, v) :: e => (putAll a e).put (some d) v
def lookAt (a : Act) : List (Nat × Value) → Nat → Value
  | [], k => a.tmps.getD k undef
  | (d, v) :: e, k => match Nat.beq d k with | true => v | false => lookAt a e k
def lookO (a : Act) (e : List (Nat × Value)) : Operand → Value
  | .tmp t => lookAt a e t
  | .const v => v
  | .global g => .pointer (some ⟨g, 0, none⟩)
  | .func f => .func (.func f) #[] #[]
def keysIn (N : Nat) (e : List (Nat × Value)) : Prop := ∀ p ∈ e, p.1 < N
theorem putAll_size (a : Act) : ∀ e, (putAll a e).tmps.size = a.tmps.size
  | [] => rfl
  | (d, v) :: e => by simp [putAll, Act.put, putAll_size a e]
theorem putAll_get (a : Act) : ∀ (e : List (Nat × Value)) (k : Nat), keysIn a.tmps.size e → (putAll a e).tmps.getD k undef = lookAt a e k
  | [], k, _ => rfl
  | (d, v) :: e, k, h => by
    have hd : d < (putAll a e).tmps.size := by rw [putAll_size]; exact h (d, v) (List.mem_cons_self ..)
    unfold putAll lookAt
    cases hb : Nat.beq d k with
    | true =>
      obtain rfl := Nat.eq_of_beq_eq_true hb
      simp [Act.put, hd]
    | false =>
      have hne : d ≠ k := fun h' => by subst h'; simp at hb
      have := putAll_get a e k (fun p hp => h p (List.mem_cons_of_mem _ hp))
      simp only [Act.put, Array.getD_eq_getD_getElem?, Array.getElem?_setIfInBounds_ne hne] at this ⊢
      exact this
theorem eval_putAll (a : Act) (e : List (Nat × Value)) (h : keysIn a.tmps.size e) : (putAll a e).eval = lookO a e := by
  funext x
  cases x with
  | tmp t => exact putAll_get a e t h
  | _ => rfl
theorem get_some_getD {A : Array Value} {k : Nat} (h : k < A.size) : A[k]? = some (A.getD k undef) := by
  simp [Array.getD_eq_getD_getElem?, h]
/-- Is an operation with this guard wanted? -/
def wantE (ops : Array Oper) (a : Act) (e : List (Nat × Value)) : Option (Nat × Bool) → Option Bool
  | none => some true
  | some (j, b) => match (ops[j]?).bind (·.dst) with
    | none => some false
    | some d => match Nat.blt d a.tmps.size, lookAt a e d with
      | true, .bool c => some (c == b)
      | true, _ => some false
      | false, _ => none
theorem wantE_spec {o : Oper} {a : Act} {e : List (Nat × Value)} {b : Bool} (hk : keysIn a.tmps.size e) (h : wantE ops a e o.guard = some b) : Region.wanted o (yielded ops (putAll a e).tmps) = b := by
  unfold Region.wanted
  unfold wantE at h
  cases hg : o.guard with
  | none => simp [hg] at h ⊢; exact h
  | some g =>
    obtain ⟨j, c⟩ := g
    simp only [hg] at h ⊢
    unfold yielded
    cases hd : (ops[j]?).bind (·.dst) with
    | none => simp [hd] at h ⊢; exact h
    | some d =>
      simp only [hd, Option.bind_some] at h ⊢
      cases hb : Nat.blt d a.tmps.size with
      | false => simp [hb] at h
      | true =>
        have hlt : d < a.tmps.size := Nat.le_of_ble_eq_true hb
        rw [get_some_getD (by rw [putAll_size]; exact hlt), putAll_get a e d hk]
        cases hv : lookAt a e d <;> simp [hb, hv] at h ⊢ <;> first | exact h | (rw [← h]) | done

/-- What is left of the order r, the frame being a with e put into it. -/
structure RunE (P : Program) (ops : Array Oper) (Q : Exit → Act → World → Prop) (S : World → Prop) (r : List (Nat × Bool)) (a : Act) (e : List (Nat × Value)) (w : World) : Prop where
  out : keysIn a.tmps.size e → seqH P ops Q S r (putAll a e) w
def opAt (ops : Array Oper) (i : Nat) : Option (Option Tmp × Op × Option (Nat × Bool)) := (ops[i]?).map fun o => (o.dst, o.op, o.guard)
theorem opAt_spec {i : Nat} {d : Option Tmp} {op : Op} {g : Option (Nat × Bool)} (h : opAt ops i = some (d, op, g)) : ∃ o, ops[i]? = some o ∧ o.dst = d ∧ o.op = op ∧ o.guard = g := by
  obtain ⟨o, ho, he⟩ := Option.map_eq_some_iff.1 h
  simp only [Prod.mk.injEq] at he
  exact ⟨o, ho, he.1, he.2.1, he.2.2⟩
theorem keysIn_cons {N d : Nat} {v : Value} {e : List (Nat × Value)} (hd : Nat.blt d N = true) (h : keysIn N e) : keysIn N ((d, v) :: e) := by
  intro p hp
  rcases List.mem_cons.1 hp with rfl | hp
  · exact Nat.le_of_ble_eq_true hd
  · exact h p hp

variable {r : List (Nat × Bool)} {a : Act} {e : List (Nat × Value)} {w : World} {i d : Nat} {g : Option (Nat × Bool)} {v : Value}

theorem run_v {s : Sem Value} {w w' : World} (h : s.run P w = .ok v w') : (do pure (.value (← s)) : Sem Next).run P w = .ok (.value v) w' := by
  rw [Sem.run_bind, h]; rfl
theorem run_yield {op : Op} (ho : opAt ops i = some (some d, op, g)) (hd : Nat.blt d a.tmps.size = true) (hw : wantE ops a e g = some true)
    (hx : ∀ (o : Oper) (w' : World), o.op = op → S w' → (execOp (lookO a e) o).run P w' = .ok (.value v) w') (h : RunE P ops Q S r a ((d, v) :: e) w) : RunE P ops Q S ((i, true) :: r) a e w := by
  refine ⟨fun hk => ?_⟩
  obtain ⟨o, hi, h1, h2, h3⟩ := opAt_spec ho
  refine ⟨o, v, d, hi, h1, .inl ⟨wantE_spec hk (by rw [h3]; exact hw), fun w' hS => by rw [eval_putAll a e hk]; exact hx o w' h2 hS⟩, ?_⟩
  exact h.out (keysIn_cons hd hk)
theorem run_skip {op : Op} (ho : opAt ops i = some (some d, op, g)) (hd : Nat.blt d a.tmps.size = true) (hw : wantE ops a e g = some false)
    (h : RunE P ops Q S r a ((d, undef) :: e) w) : RunE P ops Q S ((i, true) :: r) a e w := by
  refine ⟨fun hk => ?_⟩
  obtain ⟨o, hi, h1, h2, h3⟩ := opAt_spec ho
  refine ⟨o, undef, d, hi, h1, .inr ⟨wantE_spec hk (by rw [h3]; exact hw), rfl⟩, ?_⟩
  exact h.out (keysIn_cons hd hk)
theorem run_mov {x : Operand} (ho : opAt ops i = some (some d, .move x, g)) (hd : Nat.blt d a.tmps.size = true) (hw : wantE ops a e g = some true)
    (hv : lookO a e x = v) (h : RunE P ops Q S r a ((d, v) :: e) w) : RunE P ops Q S ((i, true) :: r) a e w :=
  run_yield ho hd hw (fun o w' h1 _ => by unfold execOp; rw [h1, ← hv]; rfl) h
theorem run_asg {x : Operand} (ho : opAt ops i = some (some d, .assign x, g)) (hd : Nat.blt d a.tmps.size = true) (hw : wantE ops a e g = some true)
    (hv : lookO a e x = v) (h : RunE P ops Q S r a ((d, v) :: e) w) : RunE P ops Q S ((i, true) :: r) a e w :=
  run_yield ho hd hw (fun o w' h1 _ => by unfold execOp; rw [h1, ← hv]; rfl) h
theorem run_pick {x y c : Operand} {b : Bool} (ho : opAt ops i = some (some d, .pick c x y, g)) (hd : Nat.blt d a.tmps.size = true) (hw : wantE ops a e g = some true)
    (hc : lookO a e c = .bool b) (hv : (match b with | true => lookO a e x | false => lookO a e y) = v) (h : RunE P ops Q S r a ((d, v) :: e) w) : RunE P ops Q S ((i, true) :: r) a e w :=
  run_yield ho hd hw (fun o w' h1 _ => by unfold execOp; rw [h1]; simp only [hc]; rw [← hv]; cases b <;> rfl) h
def cmpB : BinOp → Int → Int → Option Bool
  | .eql, x, y => some (x == y)
  | .neq, x, y => some (x != y)
  | .lss, x, y => some (decide (x < y))
  | .leq, x, y => some (decide (x ≤ y))
  | .gtr, x, y => some (decide (x > y))
  | .geq, x, y => some (decide (x ≥ y))
  | _, _, _ => none
theorem run_cmp {op : BinOp} {x y : Operand} {t t' : TypeId} {k : IntKind} {p q : Int} {b : Bool} (ho : opAt ops i = some (some d, .binOp op t x y t', g)) (hd : Nat.blt d a.tmps.size = true)
    (hw : wantE ops a e g = some true) (hx : lookO a e x = .int k p) (hy : lookO a e y = .int k q) (hb : cmpB op p q = some b)
    (h : RunE P ops Q S r a ((d, .bool b) :: e) w) : RunE P ops Q S ((i, true) :: r) a e w :=
  run_yield ho hd hw (fun o w' h1 _ => by
    unfold execOp; rw [h1]; simp only [hx, hy]
    cases op <;> simp only [cmpB, Option.some.injEq, reduceCtorEq] at hb <;> subst hb <;> simp [eqGuard, binOp, Op.intCmp, go_sem] <;> rfl) h
theorem run_mul {x y : Operand} {t t' : TypeId} {k : IntKind} {p q z : Int} (ho : opAt ops i = some (some d, .binOp .mul t x y t', g)) (hd : Nat.blt d a.tmps.size = true)
    (hw : wantE ops a e g = some true) (hx : lookO a e x = .int k p) (hy : lookO a e y = .int k q) (hz : k.wrap (p * q) = z)
    (h : RunE P ops Q S r a ((d, .int k z) :: e) w) : RunE P ops Q S ((i, true) :: r) a e w :=
  run_yield ho hd hw (fun o w' h1 _ => by
    unfold execOp; rw [h1]; simp only [hx, hy]; subst hz
    simp [eqGuard, binOp, Op.intArith, go_sem] <;> rfl) h
theorem run_neg {x : Operand} {t : TypeId} {k : IntKind} {p z : Int} (ho : opAt ops i = some (some d, .unOp .neg t x, g)) (hd : Nat.blt d a.tmps.size = true)
    (hw : wantE ops a e g = some true) (hx : lookO a e x = .int k p) (hz : k.wrap (0 - p) = z)
    (h : RunE P ops Q S r a ((d, .int k z) :: e) w) : RunE P ops Q S ((i, true) :: r) a e w :=
  run_yield ho hd hw (fun o w' h1 _ => by
    unfold execOp; rw [h1]; simp only [hx]; subst hz
    simp [Op.unary, Op.intArith, go_sem] <;> rfl) h
theorem run_not {x : Operand} {t : TypeId} {b : Bool} (ho : opAt ops i = some (some d, .unOp .not t x, g)) (hd : Nat.blt d a.tmps.size = true)
    (hw : wantE ops a e g = some true) (hx : lookO a e x = .bool b)
    (h : RunE P ops Q S r a ((d, .bool !b) :: e) w) : RunE P ops Q S ((i, true) :: r) a e w :=
  run_yield ho hd hw (fun o w' h1 _ => by
    unfold execOp; rw [h1]; simp only [hx]
    simp [Op.unary, go_sem] <;> rfl) h
/-- A load or an address, by a fact of its own. -/
theorem run_load {x : Operand} {t : TypeId} {p : Value} (ho : opAt ops i = some (some d, .load t x, g)) (hd : Nat.blt d a.tmps.size = true) (hw : wantE ops a e g = some true)
    (hx : lookO a e x = p) (hl : ∀ w', S w' → (Instr.loadAt t p).run P w' = .ok v w') (h : RunE P ops Q S r a ((d, v) :: e) w) : RunE P ops Q S ((i, true) :: r) a e w :=
  run_yield ho hd hw (fun o w' h1 hS => by
    unfold execOp; rw [h1]; simp only [hx]
    exact run_v (hl w' hS)) h
theorem run_addr {x : Operand} {t : TypeId} {f : Nat} {p : Value} (ho : opAt ops i = some (some d, .fieldAddr t x f, g)) (hd : Nat.blt d a.tmps.size = true) (hw : wantE ops a e g = some true)
    (hx : lookO a e x = p) (hl : ∀ w', (Instr.fieldAt t p f).run P w' = .ok v w') (h : RunE P ops Q S r a ((d, v) :: e) w) : RunE P ops Q S ((i, true) :: r) a e w :=
  run_yield ho hd hw (fun o w' h1 hS => by
    unfold execOp; rw [h1]; simp only [hx]
    exact run_v (hl w')) h
/-- Two values compared, by a fact of its own. -/
theorem run_same {op : BinOp} {x y : Operand} {t t' : TypeId} {p q : Value} (ho : opAt ops i = some (some d, .binOp op t x y t', g)) (hd : Nat.blt d a.tmps.size = true)
    (hw : wantE ops a e g = some true) (hx : lookO a e x = p) (hy : lookO a e y = q) (hl : ∀ w', (do eqGuard op t x y p q; binOp op t p q : Sem Value).run P w' = .ok v w')
    (h : RunE P ops Q S r a ((d, v) :: e) w) : RunE P ops Q S ((i, true) :: r) a e w :=
  run_yield ho hd hw (fun o w' h1 _ => by
    unfold execOp; rw [h1]; simp only [hx, hy]
    exact run_v (hl w')) h
/-- An operation that is not wanted, where nothing else may come up. -/
theorem run_pass {op : Op} (ho : opAt ops i = some (some d, op, g)) (hd : Nat.blt d a.tmps.size = true) (hw : wantE ops a e g = some false) (hS : S w)
    (h : RunE P ops Q S r a ((d, undef) :: e) w) : RunE P ops Q S ((i, false) :: r) a e w := by
  refine ⟨fun hk => ?_⟩
  obtain ⟨o, hi, h1, h2, h3⟩ := opAt_spec ho
  show wpOp P ops Q i (fun a' w' => (lastK ops i = true ∨ S w') ∧ seqH P ops Q S r a' w') (putAll a e) w
  unfold wpOp
  have hf : ¬ Region.wanted o (yielded ops (putAll a e).tmps) = true := by rw [wantE_spec hk (by rw [h3]; exact hw)]; exact Bool.false_ne_true
  simp only [hi, if_neg hf]
  rw [h1]
  exact ⟨.inr hS, h.out (keysIn_cons hd hk)⟩
def callsGo (P : Program) (f : FuncId) : Bool := match P.funcs[f]? with | some fn => !(fn.name == "runtime.NumGoroutine") && !fn.body.isNone | none => false
theorem callsGo_run {f : FuncId} {args : Array Value} (h : callsGo P f = true) : (callFunc f args).run P w = .ok (.enter f args) w := by
  unfold callsGo at h
  cases hf : P.funcs[f]? with
  | none => simp [hf] at h
  | some fn =>
    simp only [hf, Bool.and_eq_true, Bool.not_eq_true'] at h
    have h1 : ¬ fn.name = "runtime.NumGoroutine" := by simpa using h.1
    have h2 : ¬ fn.body = none := by intro hc; rw [hc] at h; simp at h
    simp [callFunc, go_sem, hf, h1, h2]
theorem run_call {f : FuncId} {xs : List Operand} {ats : Array TypeId} {args : List Value} (ho : opAt ops i = some (some d, .call { callee := .value (.func f), args := xs.toArray, argTypes := ats }, g))
    (hd : Nat.blt d a.tmps.size = true) (hw : wantE ops a e g = some true) (hg : callsGo P f = true) (hx : xs.map (lookO a e) = args)
    (h : Calls P f args.toArray w fun en w' => ∃ v, en = .returned v ∧ S w' ∧ RunE P ops Q S r a ((d, v) :: e) w') : RunE P ops Q S ((i, false) :: r) a e w := by
  refine ⟨fun hk => ?_⟩
  obtain ⟨o, hi, h1, h2, h3⟩ := opAt_spec ho
  show wpOp P ops Q i (fun a' w' => (lastK ops i = true ∨ S w') ∧ seqH P ops Q S r a' w') (putAll a e) w
  unfold wpOp
  simp only [hi, if_pos (wantE_spec hk (by rw [h3]; exact hw))]
  left
  unfold Oper.wp
  have hrun : (execOp (putAll a e).eval o).run P w = .ok (.enter f args.toArray) w := by
    rw [eval_putAll a e hk]
    unfold execOp
    rw [h2]
    have : (resolve (lookO a e) { callee := .value (.func f), args := xs.toArray, argTypes := ats } o.type) = pure { target := .fn (.func f) #[], args := #[] ++ args.toArray } := by
      unfold resolve
      simp only [List.map_toArray, hx]
      rfl
    simp only [this]
    show (callFunc f (#[] ++ args.toArray ++ #[])).run P w = _
    rw [Array.append_empty, Array.empty_append]
    exact callsGo_run hg
  rw [hrun]
  simp only [Oper.upon]
  refine h.mono ?_
  rintro en w' ⟨v, rfl, hS, hr⟩
  rw [h1]
  exact ⟨.inr hS, hr.out (keysIn_cons hd hk)⟩
theorem run_done (h : Q .normal (putAll a e) w) : RunE P ops Q S [] a e w := ⟨fun _ => h⟩
theorem run_region {id : Nat} {ops' : Array Oper} (r : List (Nat × Bool)) (hops : ops' = ops) (hm : P.follows .mixedOrders = true) (hs : Region.noSelect ops = true) (hlen : Nat.beq r.length ops.size = true)
    (hsch : schedOK ops r (Array.replicate ops.size false) = true) (hQ : ∀ c a d v w, Q (.panic c) (Act.put a (some d) v) w → Q (.panic c) a w) (hS : S w.drew)
    (h : RunE P ops Q S r a [] w.drew) : (Code.region id ops' true).wp P Q a w := by
  subst hops
  refine wp_region_any hm (wpAny_of_L (S := S) _ _ _ _ ?_)
  have hl := Nat.eq_of_beq_eq_true hlen
  show wpAnyL P ops' Q S ops'.size (Array.replicate ops'.size false) a w.drew
  generalize Array.replicate ops'.size false = L at hsch ⊢
  rw [← hl]
  exact seq_sound hs hQ r _ _ _ hsch (.inr hS) (h.out (fun p hp => by cases hp))
end

/-! Items. -/
section
variable {ops : Array Oper} {Q : Exit → Act → World → Prop} {w0 : World} {L : List (Nat × It)}
variable {r : List (Nat × Bool)} {a : Act} {e : List (Nat × Value)} {w : World} {i d : Nat} {g : Option (Nat × Bool)}
theorem load_item {w' : World} {b : Nat} {x : It} (h : w'.heap[b]? = some (.cells #[.int .i64 x.n, .int .i64 x.d, .string x.t] 45 (0, 0))) :
    (Instr.loadAt 45 (.pointer (some ⟨b, 0, none⟩))).run Tryz.prog w' = .ok (.agg #[.int .i64 x.n, .int .i64 x.d, .string x.t]) w' :=
  run_loadVar_row w' b _ 45 #[.int .i64 x.n, .int .i64 x.d, .string x.t] (0, 0) _ h Tryz.underlying45 rfl infoItem
theorem load_int {w' : World} {p : Addr} {v : Value} (h : w'.cell? p = some v) : (Instr.loadAt 3 (.pointer (some p))).run Tryz.prog w' = .ok v w' := by
  simp [Instr.loadAt, go_sem, h]
theorem addr_item {w' : World} {b f : Nat} (hf : f < 3) : (Instr.fieldAt 45 (.pointer (some ⟨b, 0, none⟩)) f).run Tryz.prog w' = .ok (.pointer (some ⟨b, f, none⟩)) w' := by
  rcases (show f = 0 ∨ f = 1 ∨ f = 2 by omega) with rfl | rfl | rfl <;> simp [Instr.fieldAt, go_sem] <;> rfl
theorem run_item {x : Operand} {b : Nat} (z : It) (ho : opAt ops i = some (some d, .load 45 x, g)) (hd : Nat.blt d a.tmps.size = true) (hw : wantE ops a e g = some true)
    (hx : lookO a e x = .pointer (some ⟨b, 0, none⟩)) (m : (b, z) ∈ L) (h : RunE Tryz.prog ops Q (fun w' => Held w0 w' L) r a ((d, .agg #[.int .i64 z.n, .int .i64 z.d, .string z.t]) :: e) w) : RunE Tryz.prog ops Q (fun w' => Held w0 w' L) ((i, true) :: r) a e w :=
  run_load ho hd hw hx (fun w' hS => load_item (held_at hS m)) h
theorem run_num {x : Operand} {b : Nat} (z : It) (ho : opAt ops i = some (some d, .load 3 x, g)) (hd : Nat.blt d a.tmps.size = true) (hw : wantE ops a e g = some true)
    (hx : lookO a e x = .pointer (some ⟨b, 0, none⟩)) (m : (b, z) ∈ L) (h : RunE Tryz.prog ops Q (fun w' => Held w0 w' L) r a ((d, .int .i64 z.n) :: e) w) : RunE Tryz.prog ops Q (fun w' => Held w0 w' L) ((i, true) :: r) a e w :=
  run_load ho hd hw hx (fun w' hS => load_int (held3 hS m).1) h
theorem run_den {x : Operand} {b : Nat} (z : It) (ho : opAt ops i = some (some d, .load 3 x, g)) (hd : Nat.blt d a.tmps.size = true) (hw : wantE ops a e g = some true)
    (hx : lookO a e x = .pointer (some ⟨b, 1, none⟩)) (m : (b, z) ∈ L) (h : RunE Tryz.prog ops Q (fun w' => Held w0 w' L) r a ((d, .int .i64 z.d) :: e) w) : RunE Tryz.prog ops Q (fun w' => Held w0 w' L) ((i, true) :: r) a e w :=
  run_load ho hd hw hx (fun w' hS => load_int (held3 hS m).2.1) h
theorem run_part {P : Program} {S : World → Prop} {x : Operand} {f b : Nat} (hP : P = Tryz.prog) (hf : Nat.blt f 3 = true) (ho : opAt ops i = some (some d, .fieldAddr 45 x f, g)) (hd : Nat.blt d a.tmps.size = true) (hw : wantE ops a e g = some true)
    (hx : lookO a e x = .pointer (some ⟨b, 0, none⟩)) (h : RunE P ops Q S r a ((d, .pointer (some ⟨b, f, none⟩)) :: e) w) : RunE P ops Q S ((i, true) :: r) a e w := by
  subst hP
  exact run_addr ho hd hw hx (fun w' => addr_item (Nat.le_of_ble_eq_true hf)) h
theorem neq_item {w' : World} {x y : It} {X Y : Operand} (h : x = y) :
    (do eqGuard .neq 45 X Y (.agg #[.int .i64 x.n, .int .i64 x.d, .string x.t]) (.agg #[.int .i64 y.n, .int .i64 y.d, .string y.t]); binOp .neq 45 (.agg #[.int .i64 x.n, .int .i64 x.d, .string x.t]) (.agg #[.int .i64 y.n, .int .i64 y.d, .string y.t]) : Sem Value).run Tryz.prog w' = .ok (.bool false) w' := by
  subst h
  have hm : Tryz.prog.eqGuardType Tryz.prog.depth 45 = false := by kernel_rfl
  rw [Sem.run_bind, run_eqGuard_agg (hm := hm)]
  show (binOp .neq 45 _ _).run Tryz.prog w' = _
  rw [run_neq_struct]
  simp [go_sem]
theorem eql_item {w' : World} {x y : It} {X Y : Operand} (h : x = y) :
    (do eqGuard .eql 45 X Y (.agg #[.int .i64 x.n, .int .i64 x.d, .string x.t]) (.agg #[.int .i64 y.n, .int .i64 y.d, .string y.t]); binOp .eql 45 (.agg #[.int .i64 x.n, .int .i64 x.d, .string x.t]) (.agg #[.int .i64 y.n, .int .i64 y.d, .string y.t]) : Sem Value).run Tryz.prog w' = .ok (.bool true) w' := by
  subst h
  have hm : Tryz.prog.eqGuardType Tryz.prog.depth 45 = false := by kernel_rfl
  rw [Sem.run_bind, run_eqGuard_agg (hm := hm)]
  show (binOp .eql 45 _ _).run Tryz.prog w' = _
  rw [run_eql_struct]
  simp [go_sem]
theorem neq_bool {w' : World} {x y : Bool} {X Y : Operand} : (do eqGuard .neq 4 X Y (.bool x) (.bool y); binOp .neq 4 (.bool x) (.bool y) : Sem Value).run Tryz.prog w' = .ok (.bool (x != y)) w' := by
  cases x <;> cases y <;> simp [eqGuard, go_sem, binOp] <;> rfl
end
end Go.Proofs.YtikgcogiiohahaaGreatDoor
