/- Slices of items that a function of vectors builds by append, and the operations for it in a region that draws its order. -/
import Derived.Test.YteigfhenbmhepaaRows
import Derived.Test.YteigfhenbmhepaaRegV
import Derived.Test.YteigfhenbmhepaaRegB
import Derived.Test.YteigfhenbmhepaaVecTo
import Derived.Great.BuildSlice
import Derived.Laws.AppendOwn
import Derived.OwnWalk
import Derived.WalkKit
import Derived.Lib.Hide
namespace Go.Proofs.Yteigfhenbmhepaa
open Go.RowKit
set_option maxRecDepth 100000
set_option linter.unusedVariables false

section
variable {P : Program} {ops : Array Oper} {Q : Exit → Act → World → Prop} {S : World → Prop}
variable {r : List (Nat × Bool)} {a : Act} {e : List (Nat × Value)} {w : World} {i d : Nat} {g : Option (Nat × Bool)} {v : Value}
/-- An operation that changes the world, where nothing else may come up. -/
theorem run_eff {op : Op} {w' : World} (ho : opAt ops i = some (some d, op, g)) (hd : Nat.blt d a.tmps.size = true) (hw : wantE ops a e g = some true)
    (hx : ∀ o : Oper, o.op = op → (execOp (lookO a e) o).run P w = .ok (.value v) w') (hS : S w') (h : RunE P ops Q S r a ((d, v) :: e) w') : RunE P ops Q S ((i, false) :: r) a e w := by
  refine ⟨fun hk => ?_⟩
  obtain ⟨o, hi, h1, h2, h3⟩ := opAt_spec ho
  show wpOp P ops Q i (fun a' w' => (lastK ops i = true ∨ S w') ∧ seqH P ops Q S r a' w') (putAll a e) w
  unfold wpOp
  simp only [hi, if_pos (wantE_spec hk (by rw [h3]; exact hw))]
  left
  unfold Oper.wp
  rw [eval_putAll a e hk, hx o h2]
  simp only [Oper.upon]
  rw [h1]
  exact ⟨.inr hS, h.out (keysIn_cons hd hk)⟩
/-- A slice literal of one element. -/
theorem run_build {t el : TypeId} {x : Operand} {u z : Value} {cells : Array Value} {ie : TypeInfo} (ho : opAt ops i = some (some d, .buildSlice t 1 #[(0, x)], g)) (hd : Nat.blt d a.tmps.size = true) (hw : wantE ops a e g = some true)
    (hx : lookO a e x = u) (hu : P.underlying t = some (.slice el)) (hie : P.info? el = some ie) (hz : ie.zero = some z) (h24 : ¬ 1 * ie.size > 2 ^ 24) (h0 : ¬ 1 * ie.size = 0)
    (hf : Instr.fill (fun i => some (i * ie.size, ie.size)) ((Array.range (1 * ie.size)).map (z.cells[· % z.cells.size]!)) [(0, u)] = some cells)
    (hS : S (w.alloc (.cells cells el))) (h : RunE P ops Q S r a ((d, .slice (some ⟨w.heap.size, 0, none⟩) 1 1) :: e) (w.alloc (.cells cells el))) : RunE P ops Q S ((i, false) :: r) a e w := by
  refine run_eff ho hd hw (fun o h1 => ?_) hS h
  unfold execOp
  have hb := run_buildSlice (P := P) w t el 1 #[(0, u)] cells ie z hu hie hz h24 h0 hf
  simp only [h1, List.map_toArray, List.map_cons, List.map_nil, hx, Sem.run_bind, hb, Result.andThen_ok]
  rfl
/-- An append onto a row of the call's own. -/
theorem run_app {t el : TypeId} {x y : Operand} {v0 : Value} (ho : opAt ops i = some (some d, .call { callee := .builtin .append, args := [x, y].toArray, argTypes := [t, t].toArray }, g)) (hd : Nat.blt d a.tmps.size = true) (hw : wantE ops a e g = some true)
    (hx : lookO a e x = v0) (ad : Addr) (m c : Nat) (hy : lookO a e y = .slice (some ad) m c)
    (base : Nat) (ie : TypeInfo) (z : Value) (size bytes : Nat) (ht : P.underlying t = some (.slice el)) (hi : P.info? el = some ie) (hz : ie.zero = some z) (hsize : ie.size = size) (hby : ie.bytes = bytes) (hzs : z.cells.size = size) (hsz : 0 < size)
    (n : Nat) (xs : List Value) (hown : w.ownsRow base el size v0 n xs) (news : List Value) (hl : news.length = m * size) (hnews : ∀ j u, news[j]? = some u → w.cell? (ad.add j) = some u) (h1 : ∀ u ∈ news, u.oneCell' = true)
    (h63 : n + m ≤ maxLen) (hbytes : (n + m) * bytes ≤ 140737488355328) (hbase : base ≤ w.heap.size)
    (h : ∀ v' w', w'.ownsRow base el size v' (n + m) (xs ++ news) → w.grownBy w' v0.ownBlock → S w' ∧ RunE P ops Q S r a ((d, v') :: e) w') : RunE P ops Q S ((i, false) :: r) a e w := by
  refine ⟨fun hk => ?_⟩
  obtain ⟨o, hi', k1, k2, k3⟩ := opAt_spec ho
  show wpOp P ops Q i (fun a' w' => (lastK ops i = true ∨ S w') ∧ seqH P ops Q S r a' w') (putAll a e) w
  unfold wpOp
  simp only [hi', if_pos (wantE_spec hk (by rw [k3]; exact hw))]
  left
  unfold Oper.wp
  rw [eval_putAll a e hk]
  obtain ⟨v', w', hr, h2, h3, _⟩ := run_append_own (P := P) w base t o.type el ie z size bytes ht hi hz hsize hby hzs hsz v0 n xs hown ad m c news hl hnews h1 h63 hbytes hbase
  obtain ⟨hS, hR⟩ := h v' w' h2 h3
  unfold execOp
  simp only [k2, resolve, invoke, builtin, Sem.run_bind, Sem.run_pure, Result.andThen_ok, List.map_toArray, List.map_cons, List.map_nil, hx, hy, hr]
  simp only [Oper.upon]
  rw [k1]
  exact ⟨.inr hS, hR.out (keysIn_cons hd hk)⟩
/-- The last store: it waits for all the others, so nothing is asked of the world behind it. -/
theorem run_last {t : TypeId} {x y : Operand} {p u : Value} {w' : World} (hl : lastK ops i = true) (ho : opAt ops i = some (none, .store t x y, g)) (hw : wantE ops a e g = some true)
    (hx : lookO a e x = p) (hy : lookO a e y = u) (hs : (Instr.storeAt t p u).run P w = .ok () w') (h : RunE P ops Q S r a e w') : RunE P ops Q S ((i, false) :: r) a e w := by
  refine ⟨fun hk => ?_⟩
  obtain ⟨o, hi, h1, h2, h3⟩ := opAt_spec ho
  show wpOp P ops Q i (fun a' w' => (lastK ops i = true ∨ S w') ∧ seqH P ops Q S r a' w') (putAll a e) w
  unfold wpOp
  simp only [hi, if_pos (wantE_spec hk (by rw [h3]; exact hw))]
  left
  unfold Oper.wp
  have hrun : (execOp (putAll a e).eval o).run P w = .ok .skip w' := by
    rw [eval_putAll a e hk]
    unfold execOp
    rw [h2]
    simp only [hx, hy]
    rw [Sem.run_bind, hs]; rfl
  rw [hrun]
  simp only [Oper.upon]
  rw [h1]
  exact ⟨.inl hl, h.out hk⟩
end

/-- No operation that waits for all the others stands ahead of another one. -/
def seqTail (ops : Array Oper) : List (Nat × Bool) → Bool
  | [] => true
  | (_, true) :: r => seqTail ops r
  | (i, false) :: r => (!lastK ops i || r.isEmpty) && seqTail ops r
theorem seq_ops {P : Program} {ops : Array Oper} {Q : Exit → Act → World → Prop} {S : World → Prop} : ∀ (r : List (Nat × Bool)) (a : Act) (w : World), seqTail ops r = true → (r = [] ∨ S w) → seqH P ops Q S r a w → wpOps P ops Q (r.map (·.1)) a w
  | [], a, w, _, _, h => h
  | (i, true) :: r, a, w, ht, hS, h => by
    obtain ⟨o, v, d, ho, hd, hy, hq⟩ := h
    have hS := hS.resolve_left (by simp)
    refine hy.wpOp ho hS ?_
    rw [hd]
    exact seq_ops r _ _ ht (.inr hS) hq
  | (i, false) :: r, a, w, ht, hS, h => by
    simp only [seqTail, Bool.and_eq_true, Bool.or_eq_true, Bool.not_eq_true', List.isEmpty_iff] at ht
    refine wpOp_mono (fun a' w' hh => ?_) h
    refine seq_ops r a' w' ht.2 ?_ hh.2
    rcases hh.1 with hl | hS
    · rcases ht.1 with h1 | h1
      · rw [hl] at h1; cases h1
      · exact .inl h1
    · exact .inr hS
/-- A region that does not draw its order, walked in the order of its text. -/
theorem run_region_seq {P : Program} {id : Nat} {ops ops' : Array Oper} {Q : Exit → Act → World → Prop} {S : World → Prop} {a : Act} {w : World} (r : List (Nat × Bool)) (hops : ops' = ops) (hr : (r.map (·.1) == List.range ops.size) = true) (ht : seqTail ops r = true) (hS : S w)
    (h : RunE P ops Q S r a [] w) : (Code.region id ops' false).wp P Q a w := by
  subst hops
  refine wp_region ?_
  rw [← eq_of_beq hr]
  exact seq_ops r a w ht (.inr hS) (h.out (fun p hp => by cases hp))

/-! Items as cells. -/
def itCells : List It → List Value
  | [] => []
  | x :: l => .int .i64 x.n :: .int .i64 x.d :: .string x.t :: itCells l
theorem itCells_len : ∀ l : List It, (itCells l).length = l.length * 3
  | [] => rfl
  | x :: l => by simp only [itCells, List.length_cons, itCells_len l]; omega
theorem itCells_app : ∀ (l m : List It), itCells (l ++ m) = itCells l ++ itCells m
  | [], _ => rfl
  | x :: l, m => by simp only [List.cons_append, itCells, itCells_app l m]
theorem itCells_one : ∀ (l : List It), ∀ u ∈ itCells l, u.oneCell' = true
  | [], _, h => by cases h
  | x :: l, u, h => by
    simp only [itCells, List.mem_cons] at h
    rcases h with rfl | rfl | rfl | h
    · rfl
    · rfl
    · rfl
    · exact itCells_one l u h
theorem itCells_at : ∀ (l : List It) (i : Nat), i < l.length → (itCells l)[i * 3]? = some (.int .i64 (l.getD i noI).n) ∧ (itCells l)[i * 3 + 1]? = some (.int .i64 (l.getD i noI).d) ∧ (itCells l)[i * 3 + 2]? = some (.string (txtI l i))
  | [], _, h => by cases h
  | x :: l, 0, _ => ⟨rfl, rfl, rfl⟩
  | x :: l, i + 1, h => by
    have h := itCells_at l i (by simpa using h)
    have e1 : (x :: l).getD (i + 1) noI = l.getD i noI := by simp
    have e2 : txtI (x :: l) (i + 1) = txtI l i := by unfold txtI; rw [e1]
    rw [e1, e2, show (i + 1) * 3 = i * 3 + 3 by omega, show i * 3 + 3 + 1 = (i * 3 + 1) + 3 by omega, show i * 3 + 3 + 2 = (i * 3 + 2) + 3 by omega]
    exact h
/-- A row of the call's own that holds the items of l. -/
theorem own_of_its {w : World} {B : Nat} {v : Value} {l : List It} (h : w.ownsRow B 62 3 v l.length (itCells l)) :
    ∃ a c F, v = .slice a l.length c ∧ OwnIts w a l F ∧ F.Nodup ∧ (∀ b ∈ F, B ≤ b ∧ b < w.heap.size) ∧ l.length ≤ c := by
  obtain ⟨_, h⟩ := h
  rcases h with ⟨rfl, h0⟩ | ⟨g, cap, cur, rfl, hB, hg, hc, _, hs, ht⟩
  · have : l = [] := List.eq_nil_of_length_eq_zero h0
    subst this
    exact ⟨none, 0, [], rfl, .inl ⟨rfl, rfl⟩, List.nodup_nil, (fun _ h => by cases h), Nat.le_refl _⟩
  · refine ⟨some ⟨g, 0, none⟩, cap, [g], rfl, .inr ⟨g, cur, rfl, rfl, hg, by omega, fun i hi => ?_⟩, by simp, fun b hb => ?_, hc⟩
    · have key : ∀ j, j < l.length * 3 → cur[j]? = (itCells l)[j]? := fun j hj => by
        rw [← ht, List.getElem?_take_of_lt hj, Array.getElem?_toList]
      obtain ⟨h0, h1, h2⟩ := itCells_at l i hi
      exact ⟨(key _ (by omega)).trans h0, (key _ (by omega)).trans h1, (key _ (by omega)).trans h2⟩
    · obtain rfl := List.mem_singleton.1 hb
      exact ⟨hB, (Array.getElem?_eq_some_iff.1 hg).1⟩
theorem infoItm3 : (Try.prog.info? 62).map (fun i => (i.zero, i.size, i.bytes)) = some (some (.agg #[.int .i64 0, .int .i64 0, .string ⟨#[]⟩]), 3, 32) := by kernel_rfl
theorem fill_item (x : It) : Instr.fill (fun i => some (i * 3, 3)) ((Array.range (1 * 3)).map ((Value.agg #[.int .i64 0, .int .i64 0, .string ⟨#[]⟩]).cells[· % (Value.agg #[.int .i64 0, .int .i64 0, .string ⟨#[]⟩]).cells.size]!)) [(0, .agg #[.int .i64 x.n, .int .i64 x.d, .string x.t])] = some #[.int .i64 x.n, .int .i64 x.d, .string x.t] := by
  have h := Great.fill_whole (s := 3) (by decide) [.agg #[.int .i64 x.n, .int .i64 x.d, .string x.t]] ((Array.range (1 * 3)).map ((Value.agg #[.int .i64 0, .int .i64 0, .string ⟨#[]⟩]).cells[· % (Value.agg #[.int .i64 0, .int .i64 0, .string ⟨#[]⟩]).cells.size]!)) (fun v hv => by obtain rfl := List.mem_singleton.1 hv; rfl) (by simp)
  exact h
section
variable {ops : Array Oper} {Q : Exit → Act → World → Prop} {S : World → Prop}
variable {r : List (Nat × Bool)} {a : Act} {e : List (Nat × Value)} {w : World} {i d : Nat} {g : Option (Nat × Bool)} {v : Value}
theorem run_build_item {x : Operand} (z : It) (ho : opAt ops i = some (some d, .buildSlice 23 1 #[(0, x)], g)) (hd : Nat.blt d a.tmps.size = true) (hw : wantE ops a e g = some true)
    (hx : lookO a e x = .agg #[.int .i64 z.n, .int .i64 z.d, .string z.t])
    (h : ∀ W, W = w.alloc (.cells #[.int .i64 z.n, .int .i64 z.d, .string z.t] 62) → S W ∧ RunE Try.prog ops Q S r a ((d, .slice (some ⟨w.heap.size, 0, none⟩) 1 1) :: e) W) : RunE Try.prog ops Q S ((i, false) :: r) a e w := by
  obtain ⟨ie, hie, hz, hsz, _⟩ := info_parts infoItm3
  obtain ⟨hS, hR⟩ := h _ rfl
  exact run_build ho hd hw hx Try.underlying23 hie hz (by rw [hsz]; decide) (by rw [hsz]; decide) (by rw [hsz]; exact fill_item z) hS hR
theorem run_app_item {x y : Operand} {v0 : Value} {b : Nat} (z : It) {l : List It} {base : Nat} (ho : opAt ops i = some (some d, .call { callee := .builtin .append, args := [x, y].toArray, argTypes := [23, 23].toArray }, g)) (hd : Nat.blt d a.tmps.size = true) (hw : wantE ops a e g = some true)
    (hx : lookO a e x = v0) (hy : lookO a e y = .slice (some ⟨b, 0, none⟩) 1 1) (hown : w.ownsRow base 62 3 v0 l.length (itCells l)) (hb : w.heap[b]? = some (.cells #[.int .i64 z.n, .int .i64 z.d, .string z.t] 62 (0, 0)))
    (hn : l.length ≤ 1048576) (hbase : base ≤ w.heap.size)
    (h : ∀ v' w', w'.ownsRow base 62 3 v' (l ++ [z]).length (itCells (l ++ [z])) → w.grownBy w' v0.ownBlock → S w' ∧ RunE Try.prog ops Q S r a ((d, v') :: e) w') : RunE Try.prog ops Q S ((i, false) :: r) a e w := by
  obtain ⟨ie, hie, hz, hsz, hby⟩ := info_parts infoItm3
  refine run_app ho hd hw hx ⟨b, 0, none⟩ 1 1 hy base ie _ 3 32 Try.underlying23 hie hz hsz hby rfl (by decide) l.length (itCells l) hown (itCells [z]) rfl (fun j u hj => ?_) (itCells_one _) (by unfold maxLen; omega) (by omega) hbase (fun v' w' h1 h2 => ?_)
  · have hlt : j < 3 := by have := (List.getElem?_eq_some_iff.1 hj).1; simpa [itCells] using this
    have ea : (⟨b, 0, none⟩ : Addr).add j = ⟨b, j, none⟩ := by
      unfold Addr.add; split
      · rename_i h; subst h; rfl
      · simp
    rw [ea]
    refine cellOf hb ?_
    rw [← hj]
    rcases (show j = 0 ∨ j = 1 ∨ j = 2 by omega) with rfl | rfl | rfl <;> rfl
  · refine h v' w' ?_ h2
    rw [itCells_app]
    simpa using h1
/-- The store of a slice into a field of a vector. -/
theorem run_last_field {x y : Operand} {b j : Nat} {u c : Value} {C : Array Value} {t tt : TypeId} (hl : lastK ops i = true) (ho : opAt ops i = some (none, .store t x y, g)) (hw : wantE ops a e g = some true)
    (hst : ∀ {w : World} {p : Addr}, (∃ x, w.cell? p = some x) → w.frozen? p = false → (Instr.storeAt t (.pointer (some p)) u).run Try.prog w = .ok () (w.setCell p u))
    (hx : lookO a e x = .pointer (some ⟨b, j, none⟩)) (hy : lookO a e y = u) (hb : w.heap[b]? = some (.cells C tt (0, 0))) (hj : C[j]? = some c)
    (h : ∀ W, W = w.setCell ⟨b, j, none⟩ u → RunE Try.prog ops Q S r a e W) : RunE Try.prog ops Q S ((i, false) :: r) a e w :=
  run_last hl ho hw hx hy (hst ⟨_, cellOf hb hj⟩ (freeOf hb)) (h _ rfl)
end
theorem store_its {w : World} {p : Addr} {s : Option Addr} {n c : Nat} (h : ∃ x, w.cell? p = some x) (hf : w.frozen? p = false) : (Instr.storeAt 23 (.pointer (some p)) (.slice s n c)).run Try.prog w = .ok () (w.setCell p (.slice s n c)) := by
  obtain ⟨x, hx⟩ := h
  simp [Instr.storeAt, go_sem, hx, hf]
theorem look_new {a : Act} {e : List (Nat × Value)} (d : Nat) (v : Value) : lookO a ((d, v) :: e) (.tmp d) = v := by
  show lookAt a ((d, v) :: e) d = v
  unfold lookAt
  rw [Nat.beq_refl]
theorem look_next {a : Act} {e : List (Nat × Value)} {d d' : Nat} {v v' : Value} (h : Nat.beq d d' = false) : lookO a ((d, v) :: (d', v') :: e) (.tmp d') = v' := by
  show lookAt a ((d, v) :: (d', v') :: e) d' = v'
  unfold lookAt
  rw [h]
  show lookAt a ((d', v') :: e) d' = v'
  unfold lookAt
  rw [Nat.beq_refl]
theorem ownsRow_below {w w' : World} {base : Nat} {el : TypeId} {size n : Nat} {v : Value} {xs : List Value} (h : w.ownsRow base el size v n xs) (hb : Below w.heap.size w w') : w'.ownsRow base el size v n xs := by
  obtain ⟨hl, h⟩ := h
  refine ⟨hl, ?_⟩
  rcases h with h | ⟨g, cap, cur, e, hB, hg, r⟩
  · exact .inl h
  · exact .inr ⟨g, cap, cur, e, hB, blk_below hb hg, r⟩
theorem ownsRow_set {w : World} {base b j : Nat} {el : TypeId} {size n : Nat} {v u : Value} {xs : List Value} (h : w.ownsRow base el size v n xs) (hb : b < base) : (w.setCell ⟨b, j, none⟩ u).ownsRow base el size v n xs := by
  obtain ⟨hl, h⟩ := h
  refine ⟨hl, ?_⟩
  rcases h with h | ⟨g, cap, cur, e, hB, hg, r⟩
  · exact .inl h
  · exact .inr ⟨g, cap, cur, e, hB, by rw [Below.heap_setCell _ _ _ _ (show g ≠ b by omega)]; exact hg, r⟩
theorem heldC_alloc {w v : World} {L : List (Nat × TypeId × Array Value)} (h : HeldC w v L) (o : Obj) : HeldC w (v.alloc o) L := ⟨h.1.alloc h.1.size _, fun q hq => blk_old (h.2 q hq)⟩
theorem heldC_grown {w v v1 : World} {L : List (Nat × TypeId × Array Value)} {row : Option Nat} (h : HeldC w v L) (hg : v.grownBy v1 row) (hr : ∀ k, row = some k → w.heap.size ≤ k ∧ ∀ q ∈ L, q.1 ≠ k) : HeldC w v1 L :=
  ⟨h.1.grown hg h.1.size (fun r hr' => (hr r hr').1), fun q hq => (hg.block q.1 (Array.getElem?_eq_some_iff.1 (h.2 q hq)).1 (fun e => (hr q.1 e.symm).2 q hq rfl)).trans (h.2 q hq)⟩
/-- The end of 'v.Items = append(v.Items, x)': the slice of one, the append, the store. -/
theorem tail_item {ops : Array Oper} {Q : Exit → Act → World → Prop} {a : Act} {e : List (Nat × Value)} {w0 w1 : World} {L : List (Nat × TypeId × Array Value)} {i1 i2 i3 i4 d1 d2 d4 b j base : Nat} {x s p : Operand} {v0 c : Value} {C : Array Value} {tt : TypeId} (z : It) {l : List It}
    (ho1 : opAt ops i1 = some (some d1, .buildSlice 23 1 #[(0, x)], none)) (hd1 : Nat.blt d1 a.tmps.size = true) (hx : lookO a e x = .agg #[.int .i64 z.n, .int .i64 z.d, .string z.t])
    (ho2 : opAt ops i2 = some (some d2, .call { callee := .builtin .append, args := [s, .tmp d1].toArray, argTypes := [23, 23].toArray }, none)) (hd2 : Nat.blt d2 a.tmps.size = true) (hs : ∀ u, lookO a ((d1, u) :: e) s = v0)
    (ho4 : opAt ops i4 = some (some d4, .fieldAddr 27 p j, none)) (hd4 : Nat.blt d4 a.tmps.size = true) (hf : Nat.blt j 8 = true) (hp : ∀ u u', lookO a ((d2, u') :: (d1, u) :: e) p = .pointer (some ⟨b, 0, none⟩))
    (ho3 : opAt ops i3 = some (none, .store 23 (.tmp d4) (.tmp d2), none)) (hl : lastK ops i3 = true) (hne : Nat.beq d4 d2 = false)
    (H : HeldC w0 w1 L) (hown : w1.ownsRow base 62 3 v0 l.length (itCells l)) (hn : l.length ≤ 1048576) (hbase : base ≤ w1.heap.size) (hw0 : w0.heap.size ≤ base) (m : (b, tt, C) ∈ L) (hj : C[j]? = some c) (hb : b < base) (hb0 : w0.heap.size ≤ b)
    (hL : ∀ q ∈ L, ∀ k, v0.ownBlock = some k → q.1 ≠ k)
    (h : ∀ v' W, (∃ sa n c, v' = .slice sa n c) → W.heap[b]? = some (.cells (C.setIfInBounds j v') tt (0, 0)) → W.ownsRow base 62 3 v' (l ++ [z]).length (itCells (l ++ [z])) → Below w0.heap.size w0 W → w1.heap.size ≤ W.heap.size →
      (∀ q ∈ L, q.1 ≠ b → W.heap[q.1]? = some (.cells q.2.2 q.2.1 (0, 0))) → Q .normal (putAll a ((d4, .pointer (some ⟨b, j, none⟩)) :: (d2, v') :: (d1, .slice (some ⟨w1.heap.size, 0, none⟩) 1 1) :: e)) W) :
    RunE Try.prog ops Q (fun w' => HeldC w0 w' L) [(i1, false), (i2, false), (i4, true), (i3, false)] a e w1 := by
  refine run_build_item z ho1 hd1 rfl hx (fun W1 hW1 => ?_)
  have H1 : HeldC w0 W1 L := hW1 ▸ heldC_alloc H _
  have hK : W1.heap[w1.heap.size]? = some (.cells #[.int .i64 z.n, .int .i64 z.d, .string z.t] 62 (0, 0)) := hW1 ▸ blk_new w1 _ rfl
  have hO : W1.ownsRow base 62 3 v0 l.length (itCells l) := hW1 ▸ ownsRow_below hown (below1 w1 _)
  have hS1 : w1.heap.size ≤ W1.heap.size := hW1 ▸ (below1 w1 _).size
  refine ⟨H1, run_app_item (b := w1.heap.size) z ho2 hd2 rfl (hs _) (look_new _ _) hO hK hn (by omega) (fun v' W2 hO2 hg2 => ?_)⟩
  have H2 : HeldC w0 W2 L := heldC_grown H1 hg2 (fun k hk => ⟨by have := (hO.lt k hk).1; omega, fun q hq => hL q hq k hk⟩)
  have hv : ∃ sa n c, v' = .slice sa n c := by
    obtain ⟨_, h | ⟨g, cap, cur, e, _⟩⟩ := hO2
    · exact ⟨_, _, _, h.1⟩
    · exact ⟨_, _, _, e⟩
  obtain ⟨sa, n, c', rfl⟩ := hv
  refine ⟨H2, runC_partV hf ho4 hd4 rfl (hp _ _) (run_last_field hl ho3 rfl store_its (look_new _ _) (look_next hne) (heldC_at H2 m) hj (fun W3 hW3 => run_done (h _ W3 ⟨_, _, _, rfl⟩ ?_ ?_ ?_ ?_ ?_)))⟩
  · subst hW3; exact Joins.block_setCell (heldC_at H2 m) _
  · subst hW3; exact ownsRow_set hO2 hb
  · subst hW3; exact H2.1.setCell (p := ⟨b, j, none⟩) hb0 _
  · subst hW3; have := hg2.size; simp; omega
  · intro q hq hne; subst hW3; rw [Below.heap_setCell _ _ _ _ hne]; exact H2.2 q hq
section
variable {ops : Array Oper} {Q : Exit → Act → World → Prop} {S : World → Prop} {w0 : World} {L : List (Nat × TypeId × Array Value)}
variable {r : List (Nat × Bool)} {a : Act} {e : List (Nat × Value)} {w : World} {i d : Nat} {g : Option (Nat × Bool)} {v : Value}
theorem addr_add (b off j : Nat) : (⟨b, off, none⟩ : Addr).add j = ⟨b, off + j, none⟩ := by
  unfold Addr.add; split
  · rename_i h; subst h; rfl
  · rfl
/-- The address of an element of one cell. -/
theorem run_idx1 {t el : TypeId} {x y : Operand} {b off n c k : Nat} {z : Value} {by_ : Nat} (ho : opAt ops i = some (some d, .indexAddr t x y, g)) (hd : Nat.blt d a.tmps.size = true) (hw : wantE ops a e g = some true)
    (hx : lookO a e x = .slice (some ⟨b, off, none⟩) n c) (hy : lookO a e y = .int .i64 (k : Int)) (hk : k < n) (ht : Try.prog.underlying t = some (.slice el)) (he : Try.prog.elem t = el) (hz : (Try.prog.info? el).map (fun i => (i.zero, i.size, i.bytes)) = some (some z, 1, by_))
    (h : RunE Try.prog ops Q S r a ((d, .pointer (some ⟨b, off + k, none⟩)) :: e) w) : RunE Try.prog ops Q S ((i, true) :: r) a e w :=
  run_yield ho hd hw (fun o w' h1 _ => by
    unfold execOp; rw [h1]; simp only [hx, hy]
    refine run_v ?_
    obtain ⟨ie, hie, _, hsz, _⟩ := info_parts hz
    subst he
    rw [run_indexAt_slice (h := ht), if_pos ⟨Int.natCast_nonneg k, by omega⟩]
    simp [sizeOf, typeInfo, hie, hsz, addr_add]) h
/-- A load of a cell that lay there at the outset. -/
theorem runC_old {x : Operand} {t : TypeId} {b j : Nat} (hl : ∀ {w' : World} {p : Addr} {v : Value}, w'.cell? p = some v → (Instr.loadAt t (.pointer (some p))).run Try.prog w' = .ok v w')
    (ho : opAt ops i = some (some d, .load t x, g)) (hd : Nat.blt d a.tmps.size = true) (hw : wantE ops a e g = some true)
    (hx : lookO a e x = .pointer (some ⟨b, j, none⟩)) (hb : b < w0.heap.size) (hc : w0.cell? ⟨b, j, none⟩ = some v) (h : RunE Try.prog ops Q (fun w' => HeldC w0 w' L) r a ((d, v) :: e) w) : RunE Try.prog ops Q (fun w' => HeldC w0 w' L) ((i, true) :: r) a e w :=
  run_load ho hd hw hx (fun w' hS => hl ((hS.1.cell (p := ⟨b, j, none⟩) hb).trans hc)) h
end
end Go.Proofs.Yteigfhenbmhepaa
