/- The end of a region that appends one element to a field, and where the new slice lies. -/
import Derived.Test.YteoalkjngkcheaaGreatRows
import Derived.Test.YteoalkjngkcheaaGreatMy2
import Derived.Test.YteoalkjngkcheaaGreatVecStr
import Derived.Test.YteoalkjngkcheaaGreatVecStrI
import Derived.Test.YteoalkjngkcheaaGreatMy1
import Derived.Maps.AppendAt
import Derived.WalkKit
import Derived.OwnWalk
import Derived.Deep.DeepCutAuto
import Derived.Lib.Hide
import Derived.Lib.Strings
import Derived.IntWalk
import Derived.Laws.EntriesVeiled
import Derived.Deep.MidRow
import Derived.RegionTactic
import Derived.ChangeAlike
import Derived.Shelf.Abstract
import Derived.Lib.SliceRun
namespace Go.Proofs.YteoalkjngkcheaaGreat
open Go.RowKit
set_option maxRecDepth 100000
set_option linter.unusedVariables false

section
variable {P : Program} {ops : Array Oper} {Q : Exit → Act → World → Prop} {S : World → Prop}
variable {r : List (Nat × Bool)} {a : Act} {e : List (Nat × Value)} {w : World} {i d : Nat} {g : Option (Nat × Bool)} {v : Value}
/-- An append onto a row of the call's own, and where the new slice lies. -/
theorem run_appAt {t el : TypeId} {x y : Operand} {v0 : Value} (ho : opAt ops i = some (some d, .call { callee := .builtin .append, args := [x, y].toArray, argTypes := [t, t].toArray }, g)) (hd : Nat.blt d a.tmps.size = true) (hw : wantE ops a e g = some true)
  (hx : lookO a e x = v0) (ad : Addr) (m c : Nat) (hy : lookO a e y = .slice (some ad) m c)
  (base : Nat) (ie : TypeInfo) (z : Value) (size bytes : Nat) (ht : P.underlying t = some (.slice el)) (hi : P.info? el = some ie) (hz : ie.zero = some z) (hsize : ie.size = size) (hby : ie.bytes = bytes) (hzs : z.cells.size = size) (hsz : 0 < size)
  (n : Nat) (xs : List Value) (hown : w.ownsRow base el size v0 n xs) (news : List Value) (hl : news.length = m * size) (hnews : ∀ j u, news[j]? = some u → w.cell? (ad.add j) = some u) (h1 : ∀ u ∈ news, u.oneCell' = true)
  (h63 : n + m ≤ maxLen) (hbytes : (n + m) * bytes ≤ 140737488355328) (hbase : base ≤ w.heap.size)
  (h : ∀ v' w', w'.ownsRow base el size v' (n + m) (xs ++ news) → w.grownBy w' v0.ownBlock → (v'.ownBlock = v0.ownBlock ∨ v'.ownBlock = some w.heap.size) → S w' ∧ RunE P ops Q S r a ((d, v') :: e) w') : RunE P ops Q S ((i, false) :: r) a e w := by
 refine ⟨fun hk => ?_⟩
 obtain ⟨o, hi', k1, k2, k3⟩ := opAt_spec ho
 show wpOp P ops Q i (fun a' w' => (lastK ops i = true ∨ S w') ∧ seqH P ops Q S r a' w') (putAll a e) w
 unfold wpOp
 simp only [hi', if_pos (wantE_spec hk (by rw [k3]; exact hw))]
 left
 unfold Oper.wp
 rw [eval_putAll a e hk]
 obtain ⟨v', w', hr, h2, h3, _, h4⟩ := run_append_own_at (P := P) w base t o.type el ie z size bytes ht hi hz hsize hby hzs hsz v0 n xs hown ad m c news hl hnews h1 h63 hbytes hbase
 obtain ⟨hS, hR⟩ := h v' w' h2 h3 h4
 unfold execOp
 simp only [k2, resolve, invoke, builtin, Sem.run_bind, Sem.run_pure, Result.andThen_ok, List.map_toArray, List.map_cons, List.map_nil, hx, hy, hr]
 simp only [Oper.upon]
 rw [k1]
 exact ⟨.inr hS, hR.out (keysIn_cons hd hk)⟩
end
theorem store_strs {w : World} {p : Addr} {s : Option Addr} {n c : Nat} (h : ∃ x, w.cell? p = some x) (hf : w.frozen? p = false) : (Instr.storeAt 24 (.pointer (some p)) (.slice s n c)).run Tryz.prog w = .ok () (w.setCell p (.slice s n c)) := by
 obtain ⟨x, hx⟩ := h
 simp [Instr.storeAt, go_sem, hx, hf]
theorem store_vecs {w : World} {p : Addr} {s : Option Addr} {n c : Nat} (h : ∃ x, w.cell? p = some x) (hf : w.frozen? p = false) : (Instr.storeAt 29 (.pointer (some p)) (.slice s n c)).run Tryz.prog w = .ok () (w.setCell p (.slice s n c)) := by
 obtain ⟨x, hx⟩ := h
 simp [Instr.storeAt, go_sem, hx, hf]
theorem fill_txt (z : ByteArray) : Instr.fill (fun i => some (i * 1, 1)) ((Array.range (1 * 1)).map ((Value.string ⟨#[]⟩).cells[· % (Value.string ⟨#[]⟩).cells.size]!)) [(0, .string z)] = some #[.string z] := by
 have h := Great.fill_whole (s := 1) (by decide) [.string z] ((Array.range (1 * 1)).map ((Value.string ⟨#[]⟩).cells[· % (Value.string ⟨#[]⟩).cells.size]!)) (fun v hv => by obtain rfl := List.mem_singleton.1 hv; rfl) (by simp)
 exact h
theorem fill_vec (c0 c1 c2 c3 c4 c5 c6 c7 : Value) : Instr.fill (fun i => some (i * 8, 8)) ((Array.range (1 * 8)).map ((Value.agg #[.int .i64 0, .slice none 0 0, .slice none 0 0, .slice none 0 0, .slice none 0 0, .slice none 0 0, .int .i64 0, .int .i64 0]).cells[· % (Value.agg #[.int .i64 0, .slice none 0 0, .slice none 0 0, .slice none 0 0, .slice none 0 0, .slice none 0 0, .int .i64 0, .int .i64 0]).cells.size]!)) [(0, .agg #[c0, c1, c2, c3, c4, c5, c6, c7])] = some #[c0, c1, c2, c3, c4, c5, c6, c7] := by
 have h := Great.fill_whole (s := 8) (by decide) [.agg #[c0, c1, c2, c3, c4, c5, c6, c7]] ((Array.range (1 * 8)).map ((Value.agg #[.int .i64 0, .slice none 0 0, .slice none 0 0, .slice none 0 0, .slice none 0 0, .slice none 0 0, .int .i64 0, .int .i64 0]).cells[· % (Value.agg #[.int .i64 0, .slice none 0 0, .slice none 0 0, .slice none 0 0, .slice none 0 0, .slice none 0 0, .int .i64 0, .int .i64 0]).cells.size]!)) (fun v hv => by obtain rfl := List.mem_singleton.1 hv; rfl) (by simp)
 exact h
theorem tail_its3 {ops : Array Oper} {Q : Exit → Act → World → Prop} {a : Act} {e : List (Nat × Value)} {w0 w1 : World} {L : List (Nat × TypeId × Array Value)} {i1 i2 i3 i4 d1 d2 d4 b j base : Nat} {x s p : Operand} {v0 c : Value} {C : Array Value} {tt : TypeId} (z : It) {l : List It}
  (ho1 : opAt ops i1 = some (some d1, .buildSlice 28 1 #[(0, x)], none)) (hd1 : Nat.blt d1 a.tmps.size = true) (hx : lookO a e x = .agg #[.int .i64 z.n, .int .i64 z.d, .string z.t])
  (ho2 : opAt ops i2 = some (some d2, .call { callee := .builtin .append, args := [s, .tmp d1].toArray, argTypes := [28, 28].toArray }, none)) (hd2 : Nat.blt d2 a.tmps.size = true) (hs : ∀ u, lookO a ((d1, u) :: e) s = v0)
  (ho4 : opAt ops i4 = some (some d4, .fieldAddr 31 p j, none)) (hd4 : Nat.blt d4 a.tmps.size = true) (hf : Nat.blt j 8 = true) (hp : ∀ u u', lookO a ((d2, u') :: (d1, u) :: e) p = .pointer (some ⟨b, 0, none⟩))
  (ho3 : opAt ops i3 = some (none, .store 28 (.tmp d4) (.tmp d2), none)) (hl : lastK ops i3 = true) (hne : Nat.beq d4 d2 = false)
  (H : HeldC w0 w1 L) (hown : w1.ownsRow base 64 3 v0 l.length (itCells l)) (hn : l.length ≤ 1048576) (hbase : base ≤ w1.heap.size) (hw0 : w0.heap.size ≤ base) (m : (b, tt, C) ∈ L) (hj : C[j]? = some c) (hb : b < base) (hb0 : w0.heap.size ≤ b)
  (hL : ∀ q ∈ L, ∀ k, v0.ownBlock = some k → q.1 ≠ k)
  (h : ∀ v' W, (∃ sa n c, v' = .slice sa n c) → W.heap[b]? = some (.cells (C.setIfInBounds j v') tt (0, 0)) → W.ownsRow base 64 3 v' (l ++ [z]).length (itCells (l ++ [z])) → Below w0.heap.size w0 W → w1.heap.size ≤ W.heap.size →
   Moved w1 v0 v' → (∀ g, g < w1.heap.size → g ≠ b → v0.ownBlock ≠ some g → W.heap[g]? = w1.heap[g]?) → Q .normal (putAll a ((d4, .pointer (some ⟨b, j, none⟩)) :: (d2, v') :: (d1, .slice (some ⟨w1.heap.size, 0, none⟩) 1 1) :: e)) W) :
  RunE Tryz.prog ops Q (fun w' => HeldC w0 w' L) [(i1, false), (i2, false), (i4, true), (i3, false)] a e w1 := by
 obtain ⟨ie, hie, hz, hsz, hby⟩ := info_parts infoItm3
 obtain ⟨W1, hW1⟩ : ∃ W, w1.alloc (.cells #[.int .i64 z.n, .int .i64 z.d, .string z.t] 64) = W := ⟨_, rfl⟩
 have H1 : HeldC w0 W1 L := hW1 ▸ heldC_alloc H _
 have hK : W1.heap[w1.heap.size]? = some (.cells #[.int .i64 z.n, .int .i64 z.d, .string z.t] 64 (0, 0)) := hW1 ▸ blk_new w1 _ rfl
 have hO : W1.ownsRow base 64 3 v0 l.length (itCells l) := hW1 ▸ ownsRow_below hown (below1 w1 _)
 have hS1 : w1.heap.size + 1 = W1.heap.size := by rw [← hW1]; simp
 have hE : ∀ g, g < w1.heap.size → W1.heap[g]? = w1.heap[g]? := fun g hg => hW1 ▸ (below1 w1 _).block g hg
 refine run_build ho1 hd1 rfl hx Tryz.underlying28 hie hz (by rw [hsz]; decide) (by rw [hsz]; decide) (by rw [hsz]; exact fill_item z) (by rw [hW1]; exact H1) ?_
 rw [hW1]
 refine run_appAt ho2 hd2 rfl (hs _) ⟨w1.heap.size, 0, none⟩ 1 1 (look_new _ _) base ie _ 3 32 Tryz.underlying28 hie hz hsz hby rfl (by decide) (l.length) (itCells l) hO [.int .i64 z.n, .int .i64 z.d, .string z.t] rfl (fun q u hq => ?_) (fun u hu => ?_) (by unfold maxLen; omega) (by omega) (by omega) (fun v' W2 hO2 hg2 hwh => ?_)
 ·rw [addr_add, Nat.zero_add]
  refine cellOf hK ?_
  rw [← hq]
  have hlt : q < 3 := by have := (List.getElem?_eq_some_iff.1 hq).1; simpa using this
  rcases (show q = 0 ∨ q = 1 ∨ q = 2 by omega) with rfl | rfl | rfl <;> rfl
 ·simp only [List.mem_cons, List.not_mem_nil, or_false] at hu
  rcases hu with rfl | rfl | rfl <;> rfl
 have H2 : HeldC w0 W2 L := heldC_grown H1 hg2 (fun k hk => ⟨by have := (hO.lt k hk).1; omega, fun q hq => hL q hq k hk⟩)
 have hv : ∃ sa n c, v' = .slice sa n c := by
  obtain ⟨_, h | ⟨g, cap, cur, e, _⟩⟩ := hO2
  ·exact ⟨_, _, _, h.1⟩
  ·exact ⟨_, _, _, e⟩
 obtain ⟨sa, n, c', rfl⟩ := hv
 refine ⟨H2, runC_partV hf ho4 hd4 rfl (hp _ _) (run_last_field hl ho3 rfl store_its (look_new _ _) (look_next hne) (heldC_at H2 m) hj (fun W3 hW3 => run_done (h _ W3 ⟨_, _, _, rfl⟩ ?_ ?_ ?_ ?_ ?_ ?_)))⟩
 ·subst hW3; exact Joins.block_setCell (heldC_at H2 m) _
 ·subst hW3; have h5 := ownsRow_set (j := j) (u := .slice sa n c') hO2 hb; rw [show (l ++ [z]).length = l.length + 1 by simp, itCells_app]; exact h5
 ·subst hW3; exact H2.1.setCell (p := ⟨b, j, none⟩) hb0 _
 ·subst hW3; have := hg2.size; simp; omega
 ·rcases hwh with e | e
  ·exact .inl e
  ·exact .inr ⟨_, e, by omega⟩
 ·intro g hg hne hk; subst hW3; rw [Below.heap_setCell _ _ _ _ hne, hg2.block g (by omega) (fun e => hk (by rw [← e])), hE g hg]
theorem tail_txs3 {ops : Array Oper} {Q : Exit → Act → World → Prop} {a : Act} {e : List (Nat × Value)} {w0 w1 : World} {L : List (Nat × TypeId × Array Value)} {i1 i2 i3 i4 d1 d2 d4 b j base : Nat} {x s p : Operand} {v0 c : Value} {C : Array Value} {tt : TypeId} (z : ByteArray) {l : List ByteArray}
  (ho1 : opAt ops i1 = some (some d1, .buildSlice 24 1 #[(0, x)], none)) (hd1 : Nat.blt d1 a.tmps.size = true) (hx : lookO a e x = .string z)
  (ho2 : opAt ops i2 = some (some d2, .call { callee := .builtin .append, args := [s, .tmp d1].toArray, argTypes := [24, 24].toArray }, none)) (hd2 : Nat.blt d2 a.tmps.size = true) (hs : ∀ u, lookO a ((d1, u) :: e) s = v0)
  (ho4 : opAt ops i4 = some (some d4, .fieldAddr 31 p j, none)) (hd4 : Nat.blt d4 a.tmps.size = true) (hf : Nat.blt j 8 = true) (hp : ∀ u u', lookO a ((d2, u') :: (d1, u) :: e) p = .pointer (some ⟨b, 0, none⟩))
  (ho3 : opAt ops i3 = some (none, .store 24 (.tmp d4) (.tmp d2), none)) (hl : lastK ops i3 = true) (hne : Nat.beq d4 d2 = false)
  (H : HeldC w0 w1 L) (hown : w1.ownsRow base 9 1 v0 l.length (l.map Value.string)) (hn : l.length ≤ 1048576) (hbase : base ≤ w1.heap.size) (hw0 : w0.heap.size ≤ base) (m : (b, tt, C) ∈ L) (hj : C[j]? = some c) (hb : b < base) (hb0 : w0.heap.size ≤ b)
  (hL : ∀ q ∈ L, ∀ k, v0.ownBlock = some k → q.1 ≠ k)
  (h : ∀ v' W, (∃ sa n c, v' = .slice sa n c) → W.heap[b]? = some (.cells (C.setIfInBounds j v') tt (0, 0)) → W.ownsRow base 9 1 v' (l ++ [z]).length ((l ++ [z]).map Value.string) → Below w0.heap.size w0 W → w1.heap.size ≤ W.heap.size →
   Moved w1 v0 v' → (∀ g, g < w1.heap.size → g ≠ b → v0.ownBlock ≠ some g → W.heap[g]? = w1.heap[g]?) → Q .normal (putAll a ((d4, .pointer (some ⟨b, j, none⟩)) :: (d2, v') :: (d1, .slice (some ⟨w1.heap.size, 0, none⟩) 1 1) :: e)) W) :
  RunE Tryz.prog ops Q (fun w' => HeldC w0 w' L) [(i1, false), (i2, false), (i4, true), (i3, false)] a e w1 := by
 obtain ⟨ie, hie, hz, hsz, hby⟩ := info_parts infoStr
 obtain ⟨W1, hW1⟩ : ∃ W, w1.alloc (.cells #[.string z] 9) = W := ⟨_, rfl⟩
 have H1 : HeldC w0 W1 L := hW1 ▸ heldC_alloc H _
 have hK : W1.heap[w1.heap.size]? = some (.cells #[.string z] 9 (0, 0)) := hW1 ▸ blk_new w1 _ rfl
 have hO : W1.ownsRow base 9 1 v0 l.length (l.map Value.string) := hW1 ▸ ownsRow_below hown (below1 w1 _)
 have hS1 : w1.heap.size + 1 = W1.heap.size := by rw [← hW1]; simp
 have hE : ∀ g, g < w1.heap.size → W1.heap[g]? = w1.heap[g]? := fun g hg => hW1 ▸ (below1 w1 _).block g hg
 refine run_build ho1 hd1 rfl hx Tryz.underlying24 hie hz (by rw [hsz]; decide) (by rw [hsz]; decide) (by rw [hsz]; exact fill_txt z) (by rw [hW1]; exact H1) ?_
 rw [hW1]
 refine run_appAt ho2 hd2 rfl (hs _) ⟨w1.heap.size, 0, none⟩ 1 1 (look_new _ _) base ie _ 1 16 Tryz.underlying24 hie hz hsz hby rfl (by decide) (l.length) (l.map Value.string) hO [.string z] rfl (fun q u hq => ?_) (fun u hu => ?_) (by unfold maxLen; omega) (by omega) (by omega) (fun v' W2 hO2 hg2 hwh => ?_)
 ·rw [addr_add, Nat.zero_add]
  refine cellOf hK ?_
  rw [← hq]
  have hlt : q < 1 := by have := (List.getElem?_eq_some_iff.1 hq).1; simpa using this
  obtain rfl : q = 0 := by omega
  rfl
 ·simp only [List.mem_cons, List.not_mem_nil, or_false] at hu
  rcases hu with rfl <;> rfl
 have H2 : HeldC w0 W2 L := heldC_grown H1 hg2 (fun k hk => ⟨by have := (hO.lt k hk).1; omega, fun q hq => hL q hq k hk⟩)
 have hv : ∃ sa n c, v' = .slice sa n c := by
  obtain ⟨_, h | ⟨g, cap, cur, e, _⟩⟩ := hO2
  ·exact ⟨_, _, _, h.1⟩
  ·exact ⟨_, _, _, e⟩
 obtain ⟨sa, n, c', rfl⟩ := hv
 refine ⟨H2, runC_partV hf ho4 hd4 rfl (hp _ _) (run_last_field hl ho3 rfl store_strs (look_new _ _) (look_next hne) (heldC_at H2 m) hj (fun W3 hW3 => run_done (h _ W3 ⟨_, _, _, rfl⟩ ?_ ?_ ?_ ?_ ?_ ?_)))⟩
 ·subst hW3; exact Joins.block_setCell (heldC_at H2 m) _
 ·subst hW3; have h5 := ownsRow_set (j := j) (u := .slice sa n c') hO2 hb; rw [show (l ++ [z]).length = l.length + 1 by simp, List.map_append]; exact h5
 ·subst hW3; exact H2.1.setCell (p := ⟨b, j, none⟩) hb0 _
 ·subst hW3; have := hg2.size; simp; omega
 ·rcases hwh with e | e
  ·exact .inl e
  ·exact .inr ⟨_, e, by omega⟩
 ·intro g hg hne hk; subst hW3; rw [Below.heap_setCell _ _ _ _ hne, hg2.block g (by omega) (fun e => hk (by rw [← e])), hE g hg]
theorem tail_vec3 {ops : Array Oper} {Q : Exit → Act → World → Prop} {a : Act} {e : List (Nat × Value)} {w0 w1 : World} {L : List (Nat × TypeId × Array Value)} {i1 i2 i3 i4 d1 d2 d4 b j base : Nat} {x s p : Operand} {v0 c : Value} {C : Array Value} {tt : TypeId} {c0 c1 c2 c3 c4 c5 c6 c7 : Value} (HC : ∀ u ∈ [c0, c1, c2, c3, c4, c5, c6, c7], u.oneCell' = true) {n : Nat} {xs : List Value}
  (ho1 : opAt ops i1 = some (some d1, .buildSlice 29 1 #[(0, x)], none)) (hd1 : Nat.blt d1 a.tmps.size = true) (hx : lookO a e x = .agg #[c0, c1, c2, c3, c4, c5, c6, c7])
  (ho2 : opAt ops i2 = some (some d2, .call { callee := .builtin .append, args := [s, .tmp d1].toArray, argTypes := [29, 29].toArray }, none)) (hd2 : Nat.blt d2 a.tmps.size = true) (hs : ∀ u, lookO a ((d1, u) :: e) s = v0)
  (ho4 : opAt ops i4 = some (some d4, .fieldAddr 31 p j, none)) (hd4 : Nat.blt d4 a.tmps.size = true) (hf : Nat.blt j 8 = true) (hp : ∀ u u', lookO a ((d2, u') :: (d1, u) :: e) p = .pointer (some ⟨b, 0, none⟩))
  (ho3 : opAt ops i3 = some (none, .store 29 (.tmp d4) (.tmp d2), none)) (hl : lastK ops i3 = true) (hne : Nat.beq d4 d2 = false)
  (H : HeldC w0 w1 L) (hown : w1.ownsRow base 31 8 v0 n (xs)) (hn : n ≤ 1048576) (hbase : base ≤ w1.heap.size) (hw0 : w0.heap.size ≤ base) (m : (b, tt, C) ∈ L) (hj : C[j]? = some c) (hb : b < base) (hb0 : w0.heap.size ≤ b)
  (hL : ∀ q ∈ L, ∀ k, v0.ownBlock = some k → q.1 ≠ k)
  (h : ∀ v' W, (∃ sa n c, v' = .slice sa n c) → W.heap[b]? = some (.cells (C.setIfInBounds j v') tt (0, 0)) → W.ownsRow base 31 8 v' (n + 1) (xs ++ [c0, c1, c2, c3, c4, c5, c6, c7]) → Below w0.heap.size w0 W → w1.heap.size ≤ W.heap.size →
   Moved w1 v0 v' → (∀ g, g < w1.heap.size → g ≠ b → v0.ownBlock ≠ some g → W.heap[g]? = w1.heap[g]?) → Q .normal (putAll a ((d4, .pointer (some ⟨b, j, none⟩)) :: (d2, v') :: (d1, .slice (some ⟨w1.heap.size, 0, none⟩) 1 1) :: e)) W) :
  RunE Tryz.prog ops Q (fun w' => HeldC w0 w' L) [(i1, false), (i2, false), (i4, true), (i3, false)] a e w1 := by
 obtain ⟨ie, hie, hz, hsz, hby⟩ := info_parts infoVec8
 obtain ⟨W1, hW1⟩ : ∃ W, w1.alloc (.cells #[c0, c1, c2, c3, c4, c5, c6, c7] 31) = W := ⟨_, rfl⟩
 have H1 : HeldC w0 W1 L := hW1 ▸ heldC_alloc H _
 have hK : W1.heap[w1.heap.size]? = some (.cells #[c0, c1, c2, c3, c4, c5, c6, c7] 31 (0, 0)) := hW1 ▸ blk_new w1 _ rfl
 have hO : W1.ownsRow base 31 8 v0 n (xs) := hW1 ▸ ownsRow_below hown (below1 w1 _)
 have hS1 : w1.heap.size + 1 = W1.heap.size := by rw [← hW1]; simp
 have hE : ∀ g, g < w1.heap.size → W1.heap[g]? = w1.heap[g]? := fun g hg => hW1 ▸ (below1 w1 _).block g hg
 refine run_build ho1 hd1 rfl hx Tryz.underlying29 hie hz (by rw [hsz]; decide) (by rw [hsz]; decide) (by rw [hsz]; exact fill_vec _ _ _ _ _ _ _ _) (by rw [hW1]; exact H1) ?_
 rw [hW1]
 refine run_appAt ho2 hd2 rfl (hs _) ⟨w1.heap.size, 0, none⟩ 1 1 (look_new _ _) base ie _ 8 144 Tryz.underlying29 hie hz hsz hby rfl (by decide) (n) (xs) hO [c0, c1, c2, c3, c4, c5, c6, c7] rfl (fun q u hq => ?_) (fun u hu => ?_) (by unfold maxLen; omega) (by omega) (by omega) (fun v' W2 hO2 hg2 hwh => ?_)
 ·rw [addr_add, Nat.zero_add]
  refine cellOf hK ?_
  rw [← hq]
  have hlt : q < 8 := by have := (List.getElem?_eq_some_iff.1 hq).1; simpa using this
  rcases (show q = 0 ∨ q = 1 ∨ q = 2 ∨ q = 3 ∨ q = 4 ∨ q = 5 ∨ q = 6 ∨ q = 7 by omega) with rfl | rfl | rfl | rfl | rfl | rfl | rfl | rfl <;> rfl
 ·simp only [List.mem_cons, List.not_mem_nil, or_false] at hu
  rcases hu with rfl | rfl | rfl | rfl | rfl | rfl | rfl | rfl <;> exact HC _ (by simp)
 have H2 : HeldC w0 W2 L := heldC_grown H1 hg2 (fun k hk => ⟨by have := (hO.lt k hk).1; omega, fun q hq => hL q hq k hk⟩)
 have hv : ∃ sa n c, v' = .slice sa n c := by
  obtain ⟨_, h | ⟨g, cap, cur, e, _⟩⟩ := hO2
  ·exact ⟨_, _, _, h.1⟩
  ·exact ⟨_, _, _, e⟩
 obtain ⟨sa, n, c', rfl⟩ := hv
 refine ⟨H2, runC_partV hf ho4 hd4 rfl (hp _ _) (run_last_field hl ho3 rfl store_vecs (look_new _ _) (look_next hne) (heldC_at H2 m) hj (fun W3 hW3 => run_done (h _ W3 ⟨_, _, _, rfl⟩ ?_ ?_ ?_ ?_ ?_ ?_)))⟩
 ·subst hW3; exact Joins.block_setCell (heldC_at H2 m) _
 ·subst hW3; have h5 := ownsRow_set (j := j) (u := .slice sa n c') hO2 hb; exact h5
 ·subst hW3; exact H2.1.setCell (p := ⟨b, j, none⟩) hb0 _
 ·subst hW3; have := hg2.size; simp; omega
 ·rcases hwh with e | e
  ·exact .inl e
  ·exact .inr ⟨_, e, by omega⟩
 ·intro g hg hne hk; subst hW3; rw [Below.heap_setCell _ _ _ _ hne, hg2.block g (by omega) (fun e => hk (by rw [← e])), hE g hg]
end Go.Proofs.YteoalkjngkcheaaGreat

/- withoutElements, selectElements. -/
namespace Go.Proofs.YteoalkjngkcheaaGreat
open Go.RowKit
set_option maxRecDepth 100000
set_option linter.unusedVariables false

theorem TxZ.form {w wr : World} {l : List ByteArray} {v : Value} (h : TxZ w wr l v) : ∃ s n c, v = .slice s n c := by
 obtain ⟨_, ⟨e, _⟩ | ⟨g, cap, cur, e, _⟩⟩ := h.row
 ·exact ⟨_, _, _, e⟩
 ·exact ⟨_, _, _, e⟩
theorem TxZ.slice {w wr : World} {l : List ByteArray} {s : Option Addr} {n c : Nat} (h : TxZ w wr l (.slice s n c)) : n = l.length := by
 obtain ⟨_, ⟨e, h0⟩ | ⟨g, cap, cur, e, _⟩⟩ := h.row
 ·simp only [Value.slice.injEq] at e; omega
 ·simp only [Value.slice.injEq] at e; exact e.2.1
theorem TxZ.texts {w wr : World} {l : List ByteArray} {s : Option Addr} {n c : Nat} (h : TxZ w wr l (.slice s n c)) : TextsAt w.heap.size wr.heap.size wr s l := by
 obtain ⟨a, c', F, e, ho, _, hr, _⟩ := txs_of_row h.row
 simp only [Value.slice.injEq] at e
 obtain ⟨rfl, _, _⟩ := e
 exact ho.at_ hr
/-- A copy of texts, with its row. -/
theorem wpList_copyTz {w0 w : World} {ops : Array Oper} {rest : List Oper} {o : Oper} {a : Act} {Q : Exit → Act → World → Prop} (hgd : o.guard = none) (s x : Operand)
  (ho : o.op = .call { callee := .builtin .append, args := #[s, x], argTypes := #[24, 24] }) (v0 : Value) (hs : a.eval s = v0)
  (hv0 : v0 = .slice none 0 0 ∨ ∃ g, w0.heap.size ≤ g ∧ v0 = .slice (some ⟨g, 0, none⟩) 0 0 ∧ w.heap[g]? = some (.cells #[] 9 (0, 0))) (hb : Below w0.heap.size w0 w)
  (ad : Option Addr) (c : Nat) (l : List ByteArray) (lo hi : Nat) (hx : a.eval x = .slice ad l.length c) (hT : TextsAt lo hi w ad l) (hn : l.length ≤ 1048576)
  (h : ∀ v' w', TxZ w0 w' l v' → wpList Tryz.prog ops Q rest (a.put o.dst v') w') : wpList Tryz.prog ops Q (o :: rest) a w := by
 have hown : w.ownsRow w0.heap.size 9 1 v0 0 [] := by
  rcases hv0 with rfl | ⟨g, hg, rfl, hb⟩
  ·exact ⟨rfl, .inl ⟨rfl, rfl⟩⟩
  ·exact ⟨rfl, .inr ⟨g, 0, #[], rfl, hg, hb, Nat.le_refl _, Nat.zero_le _, rfl, rfl⟩⟩
 by_cases hpos : 0 < l.length
 ·obtain ⟨b, off, rfl⟩ := texts_some hT hpos
  obtain ⟨i0, hi0, hz0, hz1, hz2⟩ := info_parts infoStr
  refine wpList_append_own w hgd s x 24 ho w0.heap.size 9 i0 (.string ⟨#[]⟩) 1 16 Tryz.underlying24 hi0 hz0 hz1 hz2 rfl (by decide) v0 0 [] hs hown ⟨b, off, none⟩ l.length c (l.map Value.string) hx (by simp) (news_cells hT) (fun u hu => by obtain ⟨s, _, rfl⟩ := List.mem_map.1 hu; rfl) (by unfold maxLen; omega) (by omega) hb.size (fun v' w' h1 h2 _ => ?_)
  exact h v' w' ⟨by simpa using h1, hb.grown h2 hb.size (fun r hr => (hown.lt r hr).1)⟩
 ·obtain rfl : l = [] := List.eq_nil_of_length_eq_zero (by omega)
  refine wpList_app0 hgd s x ho v0 hs (hv0.imp id (fun ⟨g, _, e, _⟩ => ⟨g, e⟩)) ad c hx (h _ _ ⟨hown, hb⟩)
theorem implCopyTz (l : List ByteArray) (a : Option Addr) (c lo hi : Nat) (w : World) (h : TextsAt lo hi w a l) (hn : l.length ≤ 1048576) :
  Calls Tryz.prog 67 #[.slice a l.length c] w fun e w' => ∃ v, e = .returned v ∧ TxZ w w' l v := by
 have HT := hd9 h
 clear h
 go_enter Tryz.func67, Tryz.ntmps67
 go_wp2_with (at_builtin; refine wpList_copyTz rfl _ _ rfl _ rfl (.inl rfl) (Below.refl _ _) a c l lo hi rfl HT.out hn ?_)
 intro v' w' hc
 have HC := hd9 hc
 obtain ⟨_, _, _, rfl⟩ := hc.form
 clear hc
 go_wp2
 go_ret
 exact ⟨_, rfl, HC.out⟩
/-- The Class of a vector with other elements. -/
def kpC (levels cls : List ByteArray) : List ByteArray := match levels with | [] => [] | _ :: _ => cls
theorem kpC_some {levels cls : List ByteArray} (h : levels.length ≠ 0) : kpC levels cls = cls := by
 cases levels with
 | nil => exact absurd rfl h
 | cons x l => rfl
theorem build_vL {w : World} {k : Int} {a c : Option Addr} {n m n' m' : Nat} : (Instr.build 31 #[(0, .int .i64 k), (4, .slice a n m), (5, .slice c n' m')]).run Tryz.prog w = .ok (.agg #[.int .i64 k, .slice none 0 0, .slice none 0 0, .slice none 0 0, .slice a n m, .slice c n' m', .int .i64 0, .int .i64 0]) w := by
 kernel_rfl
section
variable {ops : Array Oper} {Q : Exit → Act → World → Prop} {S : World → Prop}
variable {r : List (Nat × Bool)} {a : Act} {e : List (Nat × Value)} {w : World} {i d : Nat} {g : Option (Nat × Bool)} {v : Value}
theorem run_bldL {k : Int} {z x y : Operand} {sa sb : Option Addr} {n m n' m' : Nat} (ho : opAt ops i = some (some d, .build 31 #[(0, z), (4, x), (5, y)], g)) (hd : Nat.blt d a.tmps.size = true) (hw : wantE ops a e g = some true)
  (hz : lookO a e z = .int .i64 k) (hx : lookO a e x = .slice sa n m) (hy : lookO a e y = .slice sb n' m') (hS : S w)
  (h : RunE Tryz.prog ops Q S r a ((d, .agg #[.int .i64 k, .slice none 0 0, .slice none 0 0, .slice none 0 0, .slice sa n m, .slice sb n' m', .int .i64 0, .int .i64 0]) :: e) w) : RunE Tryz.prog ops Q S ((i, false) :: r) a e w := by
 refine run_eff ho hd hw (fun o h1 => ?_) hS h
 unfold execOp
 simp only [h1, List.map_toArray, List.map_cons, List.map_nil, hx, hy, hz]
 exact run_v build_vL
end
set_option maxHeartbeats 4000000 in
theorem implWithout (d : Nat) (kk : Int) (items : List It) (parts : List Vec) (names cls levels : List ByteArray) (code env : Int) (ai ap an ac al : Option Addr) (ci cp cn cc cl lo hi : Nat) (w : World) (hC : TextsAt lo hi w ac cls) (hL : TextsAt lo hi w al levels) (hhi : hi ≤ w.heap.size) (lc : cls.length ≤ 1048576) (ll : levels.length ≤ 1048576) :
  Calls Tryz.prog 58 #[.agg #[.int .i64 kk, .slice ai items.length ci, .slice ap parts.length cp, .slice an names.length cn, .slice ac cls.length cc, .slice al levels.length cl, .int .i64 code, .int .i64 env]] w fun e w' => ∃ (sc : Option Addr) (nc qc : Nat) (sl : Option Addr) (nl ql : Nat), e = .returned (.agg #[.int .i64 kk, .slice none 0 0, .slice none 0 0, .slice none 0 0, .slice sc nc qc, .slice sl nl ql, .int .i64 0, .int .i64 0]) ∧ Und w.heap.size w' d [] [] [] (kpC levels cls) levels (.slice none 0 0) (.slice none 0 0) (.slice none 0 0) (.slice sc nc qc) (.slice sl nl ql) [] ∧ Below w.heap.size w w' := by
 by_cases h0 : levels.length = 0
 ·have e := List.eq_nil_of_length_eq_zero h0
  subst e
  go_enter Tryz.func58, Tryz.ntmps58
  go_wp2_with fail
  exact vec_ret0 rfl rfl rfl (blk_new _ _ (by simp)) ⟨none, 0, 0, none, 0, 0, rfl, Und.start _ _ _, (below1 w _).alloc (by simp) _⟩
 ·have CC := hd9 (fun (W : World) (hb : Below w.heap.size w W) => implCopyTz cls ac cc lo hi W (hC.below hb hhi) lc)
  have CL := hd9 (fun (W : World) (hb : Below w.heap.size w W) => implCopyTz levels al cl lo hi W (hL.below hb hhi) ll)
  have EK := hd9 (kpC_some (cls := cls) h0)
  have h0b : (((levels.length : Nat) : Int) == 0) = false := beq_eq_false_iff_ne.2 (by omega)
  clear hC hL
  go_enter Tryz.func58, Tryz.ntmps58
  go_upto_region 3 with (fail)
  obtain ⟨w1, hw1⟩ : ∃ W, (w.alloc (.cells #[.int .i64 kk, .slice ai items.length ci, .slice ap parts.length cp, .slice an names.length cn, .slice ac cls.length cc, .slice al levels.length cl, .int .i64 code, .int .i64 env] 31)).alloc (.cells #[.int .i64 0, .slice none 0 0, .slice none 0 0, .slice none 0 0, .slice none 0 0, .slice none 0 0, .int .i64 0, .int .i64 0] 31) = W := ⟨_, rfl⟩
  have hsz : (w.alloc (.cells #[.int .i64 kk, .slice ai items.length ci, .slice ap parts.length cp, .slice an names.length cn, .slice ac cls.length cc, .slice al levels.length cl, .int .i64 code, .int .i64 env] 31)).heap.size = w.heap.size + 1 := by simp
  have B1 := hd9 (show Below w.heap.size w w1 from hw1 ▸ (below1 w _).alloc (by simp) _)
  have KA := hd9 (show w1.heap[w.heap.size]? = some (.cells #[.int .i64 kk, .slice ai items.length ci, .slice ap parts.length cp, .slice an names.length cn, .slice ac cls.length cc, .slice al levels.length cl, .int .i64 code, .int .i64 env] 31 (0, 0)) from hw1 ▸ blk_old (blk_new w _ rfl))
  have KR := hd9 (show w1.heap[w.heap.size + 1]? = some (.cells #[.int .i64 0, .slice none 0 0, .slice none 0 0, .slice none 0 0, .slice none 0 0, .slice none 0 0, .int .i64 0, .int .i64 0] 31 (0, 0)) from hw1 ▸ hsz ▸ blk_new (w.alloc (.cells #[.int .i64 kk, .slice ai items.length ci, .slice ap parts.length cp, .slice an names.length cn, .slice ac cls.length cc, .slice al levels.length cl, .int .i64 code, .int .i64 env] 31)) (.cells #[.int .i64 0, .slice none 0 0, .slice none 0 0, .slice none 0 0, .slice none 0 0, .slice none 0 0, .int .i64 0, .int .i64 0] 31) rfl)
  rw [hw1]
  clear hw1 hsz
  have SZ : w.heap.size + 1 + 1 ≤ w1.heap.size := by have := (gs9.1 KR.out).1; omega
  have U := hd9 (Und.start (w.heap.size + 1 + 1) w1.drew d)
  have H := hd9 (show HeldC w w1 ([(w.heap.size, 31, #[.int .i64 kk, .slice ai items.length ci, .slice ap parts.length cp, .slice an names.length cn, .slice ac cls.length cc, .slice al levels.length cl, .int .i64 code, .int .i64 env]), ((w.heap.size + 1), 31, #[.int .i64 0, .slice none 0 0, .slice none 0 0, .slice none 0 0, .slice none 0 0, .slice none 0 0, .int .i64 0, .int .i64 0])]) from heldC_cons (heldC_cons ⟨B1.out, (fun _ h => by cases h)⟩ KR.out) KA.out)
  refine run_region (ops := (opsOf Tryz.f58 3)) (S := fun w' => HeldC w w' ([(w.heap.size, 31, #[.int .i64 kk, .slice ai items.length ci, .slice ap parts.length cp, .slice an names.length cn, .slice ac cls.length cc, .slice al levels.length cl, .int .i64 code, .int .i64 env]), ((w.heap.size + 1), 31, #[.int .i64 0, .slice none 0 0, .slice none 0 0, .slice none 0 0, .slice none 0 0, .slice none 0 0, .int .i64 0, .int .i64 0])])) [(0, true), (1, true), (2, true), (3, true), (5, true), (6, true), (4, false), (7, false), (8, false), (9, false)] (by kernel_rfl) (by kernel_rfl) (by kernel_rfl) (by kernel_rfl) (by kernel_rfl) (fun _ _ _ _ _ h => h) (heldC_drew H.out) ?_
  have H := hd9 (heldC_drew H.out)
  refine runC_partV (b := w.heap.size) (by kernel_rfl) (show opAt (opsOf Tryz.f58 3) 0 = some (some 10, .fieldAddr 31 (.tmp 1) 0, none) from by kernel_rfl) (by kernel_rfl) (by kernel_rfl) (by kernel_rfl) ?_
  refine runC_cell (b := w.heap.size) (j := 0) (v := .int .i64 kk) load_int (show opAt (opsOf Tryz.f58 3) 1 = some (some 11, .load 3 (.tmp 10), none) from by kernel_rfl) (by kernel_rfl) (by kernel_rfl) (by kernel_rfl) mh9 rfl ?_
  refine runC_partV (b := w.heap.size) (by kernel_rfl) (show opAt (opsOf Tryz.f58 3) 2 = some (some 12, .fieldAddr 31 (.tmp 1) 4, none) from by kernel_rfl) (by kernel_rfl) (by kernel_rfl) (by kernel_rfl) ?_
  refine runC_cell (b := w.heap.size) (j := 4) (v := .slice ac cls.length cc) load_strs (show opAt (opsOf Tryz.f58 3) 3 = some (some 13, .load 24 (.tmp 12), none) from by kernel_rfl) (by kernel_rfl) (by kernel_rfl) (by kernel_rfl) mh9 rfl ?_
  refine runC_partV (b := w.heap.size) (by kernel_rfl) (show opAt (opsOf Tryz.f58 3) 5 = some (some 15, .fieldAddr 31 (.tmp 1) 5, none) from by kernel_rfl) (by kernel_rfl) (by kernel_rfl) (by kernel_rfl) ?_
  refine runC_cell (b := w.heap.size) (j := 5) (v := .slice al levels.length cl) load_strs (show opAt (opsOf Tryz.f58 3) 6 = some (some 16, .load 24 (.tmp 15), none) from by kernel_rfl) (by kernel_rfl) (by kernel_rfl) (by kernel_rfl) mh9 rfl ?_
  refine run_call (args := [.slice ac cls.length cc]) (show opAt (opsOf Tryz.f58 3) 4 = some (some 14, .call { callee := .value (.func 67), args := [(.tmp 13)].toArray, argTypes := [24].toArray }, none) from by kernel_rfl) (by kernel_rfl) (by kernel_rfl) (by kernel_rfl) (by kernel_rfl) ?_
  refine (CC.out _ H.out.1).mono ?_
  rintro en rw1 ⟨v, rfl, tz⟩
  obtain ⟨sc, nc, qc, rfl⟩ := tz.form
  have U := hd9 (U.out.setC (row_lo tz.row SZ) (moved_new tz.row) (fun g _ hg _ => tz.below.block g hg) tz.below.size)
  have SZ := Nat.le_trans SZ tz.below.size
  refine ⟨_, rfl, heldC_call H.out tz.below, ?_⟩
  have H := hd9 (heldC_call H.out tz.below)
  clear tz
  refine run_call (args := [.slice al levels.length cl]) (show opAt (opsOf Tryz.f58 3) 7 = some (some 17, .call { callee := .value (.func 67), args := [(.tmp 16)].toArray, argTypes := [24].toArray }, none) from by kernel_rfl) (by kernel_rfl) (by kernel_rfl) (by kernel_rfl) (by kernel_rfl) ?_
  refine (CL.out _ H.out.1).mono ?_
  rintro en rw2 ⟨v, rfl, tz⟩
  obtain ⟨sl, nl, ql, rfl⟩ := tz.form
  have U := hd9 (U.out.setL (row_lo tz.row SZ) (moved_new tz.row) (fun g _ hg _ => tz.below.block g hg) tz.below.size)
  have SZ := Nat.le_trans SZ tz.below.size
  refine ⟨_, rfl, heldC_call H.out tz.below, ?_⟩
  have H := hd9 (heldC_call H.out tz.below)
  clear tz
  refine run_bldL (k := kk) (sa := sc) (n := nc) (m := qc) (sb := sl) (n' := nl) (m' := ql) (show opAt (opsOf Tryz.f58 3) 8 = some (some 18, .build 31 #[(0, .tmp 11), (4, .tmp 14), (5, .tmp 17)], none) from by kernel_rfl) (by kernel_rfl) (by kernel_rfl) (by kernel_rfl) (by kernel_rfl) (by kernel_rfl) H.out ?_
  refine run_last (by kernel_rfl) (show opAt (opsOf Tryz.f58 3) 9 = some (none, .store 31 (.tmp 2) (.tmp 18), none) from by kernel_rfl) (by kernel_rfl) (by kernel_rfl) (by kernel_rfl) (store_vec8 (heldC_at H.out (mt9 mh9)) (show (#[.int .i64 kk, .slice none 0 0, .slice none 0 0, .slice none 0 0, .slice sc nc qc, .slice sl nl ql, .int .i64 0, .int .i64 0] : Array Value).all (·.oneCell') = true from by simp [Value.oneCell'])) ?_
  refine run_done ?_
  simp only [putAll, Act.put, List.setIfInBounds_toArray, List.set_cons_zero, List.set_cons_succ]
  have KZ := hd9 (heldC_at H.out (mt9 mh9))
  have UF := hd9 (U.out.under (b := w.heap.size + 1) (by omega))
  have UR := hd9 ((U.out.but (w' := _) UF.out (fun g _ hg => row_old (c := #[.int .i64 kk, .slice none 0 0, .slice none 0 0, .slice none 0 0, .slice sc nc qc, .slice sl nl ql, .int .i64 0, .int .i64 0]) rfl hg) (by simp)).wide (lo' := w.heap.size) (by omega))
  go_wp2
  exact vec_ret0 rfl rfl rfl (row_set KZ.out) ⟨sc, nc, qc, sl, nl, ql, rfl, (by rw [EK.out]; exact UR.out), below_row H.out.1 (show w.heap.size ≤ w.heap.size + 1 by omega) _⟩
/-- The elements of a vector at indexes. -/
noncomputable def selV (kk : Int) (items : List It) (parts : List Vec) (names cls levels : List ByteArray) (idx : List Nat) : Vec := .mk kk (pkL noI items idx) (pkL noV parts idx) (clnN (pkL ⟨#[]⟩ names idx)) (kpC levels cls) levels 0 0
theorem pkL_len {α : Type} (z : α) (l : List α) (idx : List Nat) : (pkL z l idx).length ≤ idx.length := by
 cases l with
 | nil => exact Nat.zero_le _
 | cons x l => unfold pkL; simp
theorem ItR.slice {w wr : World} {l : List It} {s : Option Addr} {n c : Nat} (h : ItR w wr l (.slice s n c)) : n = l.length := by
 obtain ⟨_, ⟨e, h0⟩ | ⟨g, cap, cur, e, _⟩⟩ := h.row
 ·simp only [Value.slice.injEq] at e; omega
 ·simp only [Value.slice.injEq] at e; exact e.2.1
set_option maxHeartbeats 8000000 in
theorem implSelect (d : Nat) (kk : Int) (items : List It) (parts : List Vec) (names cls levels : List ByteArray) (code env : Int) (ai ap an ac al xi : Option Addr) (ci cp cn cc cl xc lo hi B : Nat) (idx : List Nat) (w : World) (hI : ItemsAt lo hi w ai items) (hP : VecsAt lo hi w d ap parts) (hN : TextsAt lo hi w an names) (hC : TextsAt lo hi w ac cls) (hL : TextsAt lo hi w al levels) (hhi : hi ≤ w.heap.size)
  (li : items.length ≤ 1048576) (lp : parts.length ≤ 1048576) (ln : names.length ≤ 1048576) (lc : cls.length ≤ 1048576) (ll : levels.length ≤ 1048576) (hsp : ∀ p ∈ parts, Small d p) (hs : IntsAt B w xi idx.length (ixF idx)) (hB : B ≤ w.heap.size) (hn : idx.length ≤ 1048576)
  (hi1 : items.length ≠ 0 → ∀ i, i < idx.length → idx.getD i 0 < items.length) (hi2 : parts.length ≠ 0 → ∀ i, i < idx.length → idx.getD i 0 < parts.length) (hi3 : names.length ≠ 0 → ∀ i, i < idx.length → idx.getD i 0 < names.length) :
  Calls Tryz.prog 48 #[.agg #[.int .i64 kk, .slice ai items.length ci, .slice ap parts.length cp, .slice an names.length cn, .slice ac cls.length cc, .slice al levels.length cl, .int .i64 code, .int .i64 env], .slice xi idx.length xc] w (ResV (d + 1) (selV kk items parts names cls levels idx) w) := by
 have CW := hd9 (fun (W : World) (hb : Below w.heap.size w W) => implWithout d kk items parts names cls levels code env ai ap an ac al ci cp cn cc cl lo hi W (hC.below hb hhi) (hL.below hb hhi) (Nat.le_trans hhi hb.size) lc ll)
 have CI := hd9 (fun (W : World) (hb : Below w.heap.size w W) => implSelIt items idx ai xi ci xc lo hi B W (hI.below hb hhi) (hs.below (hb.mono hB)) (Nat.le_trans hB hb.size) (Nat.le_trans hhi hb.size) hn li hi1)
 have CV := hd9 (fun (W : World) (hb : Below w.heap.size w W) => implSelVec d parts idx ap xi cp xc lo hi B W (hP.below hb hhi) (hs.below (hb.mono hB)) (Nat.le_trans hB hb.size) (Nat.le_trans hhi hb.size) hn lp hi2)
 have CT := hd9 (fun (W : World) (hb : Below w.heap.size w W) => implSelTx names idx an xi cn xc lo hi B W (hN.below hb hhi) (hs.below (hb.mono hB)) (Nat.le_trans hB hb.size) (Nat.le_trans hhi hb.size) hn ln hi3)
 have CP := hd9 (fun (W : World) (sa : Option Addr) (c : Nat) (h : VecsAt 0 W.heap.size W d sa (pkL noV parts idx)) => (icsAll d).out (pkL noV parts idx) sa c 0 W.heap.size W h (Nat.le_refl _) (fun i hi => by
  by_cases h0 : parts.length = 0
  ·rw [List.eq_nil_of_length_eq_zero h0] at hi; cases hi
  ·rw [pkL_some h0] at hi ⊢
   have hi' : i < idx.length := by simpa using hi
   have e1 : (idx.map (fun i => parts.getD i noV)).getD i noV = parts.getD (idx.getD i 0) noV := by simp [List.getD_eq_getElem?_getD, hi']
   have hq := hi2 h0 i hi'
   rw [e1, List.getD_eq_getElem?_getD, List.getElem?_eq_getElem hq]
   exact hsp _ (List.getElem_mem hq)) (Nat.le_trans (pkL_len _ _ _) hn))
 have CK := hd9 (fun (W : World) (sa : Option Addr) (c lo' hi' : Nat) (h : TextsAt lo' hi' W sa (pkL ⟨#[]⟩ names idx)) => implKnownN (pkL ⟨#[]⟩ names idx) sa c lo' hi' W h (Nat.le_trans (pkL_len _ _ _) hn))
 have EV := hd9 (show selV kk items parts names cls levels idx = .mk kk (pkL noI items idx) (pkL noV parts idx) (clnN (pkL ⟨#[]⟩ names idx)) (kpC levels cls) levels 0 0 from rfl)
 obtain ⟨V, hV⟩ : ∃ V, selV kk items parts names cls levels idx = V := ⟨_, rfl⟩
 rw [hV] at EV ⊢
 obtain ⟨I, hI'⟩ : ∃ I, pkL noI items idx = I := ⟨_, rfl⟩
 obtain ⟨Q, hQ'⟩ : ∃ Q, pkL noV parts idx = Q := ⟨_, rfl⟩
 obtain ⟨T, hT'⟩ : ∃ T, pkL ⟨#[]⟩ names idx = T := ⟨_, rfl⟩
 obtain ⟨m, hm⟩ : ∃ m, idx.length = m := ⟨_, rfl⟩
 rw [hI'] at CI EV
 rw [hQ'] at CV CP EV
 rw [hT'] at CT CK EV
 rw [hm] at CI CV CT ⊢
 clear hV hI' hQ' hT' hm hI hP hN hC hL hsp hs hi1 hi2 hi3
 go_enter Tryz.func48, Tryz.ntmps48
 go_wp2_with fail
 obtain ⟨w1, hw1⟩ : ∃ W, (w.alloc (.cells #[.int .i64 kk, .slice ai items.length ci, .slice ap parts.length cp, .slice an names.length cn, .slice ac cls.length cc, .slice al levels.length cl, .int .i64 code, .int .i64 env] 31)).alloc (.cells #[.int .i64 0, .slice none 0 0, .slice none 0 0, .slice none 0 0, .slice none 0 0, .slice none 0 0, .int .i64 0, .int .i64 0] 31) = W := ⟨_, rfl⟩
 have hsz : (w.alloc (.cells #[.int .i64 kk, .slice ai items.length ci, .slice ap parts.length cp, .slice an names.length cn, .slice ac cls.length cc, .slice al levels.length cl, .int .i64 code, .int .i64 env] 31)).heap.size = w.heap.size + 1 := by simp
 have B1 := hd9 (show Below w.heap.size w w1 from hw1 ▸ (below1 w _).alloc (by simp) _)
 have KA := hd9 (show w1.heap[w.heap.size]? = some (.cells #[.int .i64 kk, .slice ai items.length ci, .slice ap parts.length cp, .slice an names.length cn, .slice ac cls.length cc, .slice al levels.length cl, .int .i64 code, .int .i64 env] 31 (0, 0)) from hw1 ▸ blk_old (blk_new w _ rfl))
 have KR := hd9 (show w1.heap[w.heap.size + 1]? = some (.cells #[.int .i64 0, .slice none 0 0, .slice none 0 0, .slice none 0 0, .slice none 0 0, .slice none 0 0, .int .i64 0, .int .i64 0] 31 (0, 0)) from hw1 ▸ hsz ▸ blk_new (w.alloc (.cells #[.int .i64 kk, .slice ai items.length ci, .slice ap parts.length cp, .slice an names.length cn, .slice ac cls.length cc, .slice al levels.length cl, .int .i64 code, .int .i64 env] 31)) (.cells #[.int .i64 0, .slice none 0 0, .slice none 0 0, .slice none 0 0, .slice none 0 0, .slice none 0 0, .int .i64 0, .int .i64 0] 31) rfl)
 rw [hw1]
 clear hw1 hsz
 with_reducible refine (CW.out _ B1.out).mono ?_
 rintro e w2 ⟨sc, nc, qc, sl, nl, ql, rfl, hu, b'⟩
 have KR1 := KR
 have B2 := hd9 (below_then B1.out b')
 have KA := hd9 (blk_below b' KA.out)
 have KR := hd9 (blk_below b' KR.out)
 have hrb := (gs9.1 KR.out).1
 have UF := hd9 (hu.free (b := w2.heap.size) (Nat.le_refl _))
 have hL1 := (gs9.1 KR1.out).1
 have SL := b'.size
 obtain ⟨L0, hL0⟩ : ∃ L0, w1.heap.size = L0 := ⟨_, rfl⟩
 rw [hL0] at hu SL hL1
 have U := hd9 hu
 clear hu b'
 obtain ⟨a0, a1, a2, a3, a4, a5, a6, a7⟩ := vec8 KA.out
 have hltA := (gs9.1 KA.out).1
 go_wp2_with fail
 clear a0 a1 a2 a3 a4 a5 a6 a7
 obtain ⟨w3, hw3⟩ : ∃ W, w2.alloc (.cells #[.int .i64 kk, .slice none 0 0, .slice none 0 0, .slice none 0 0, .slice sc nc qc, .slice sl nl ql, .int .i64 0, .int .i64 0] 31) = W := ⟨_, rfl⟩
 have KB := hd9 (show w3.heap[w2.heap.size]? = some (.cells #[.int .i64 kk, .slice none 0 0, .slice none 0 0, .slice none 0 0, .slice sc nc qc, .slice sl nl ql, .int .i64 0, .int .i64 0] 31 (0, 0)) from hw3 ▸ blk_new w2 _ rfl)
 have KA := hd9 (show w3.heap[w.heap.size]? = some (.cells #[.int .i64 kk, .slice ai items.length ci, .slice ap parts.length cp, .slice an names.length cn, .slice ac cls.length cc, .slice al levels.length cl, .int .i64 code, .int .i64 env] 31 (0, 0)) from hw3 ▸ blk_old KA.out)
 have KR := hd9 (show w3.heap[w.heap.size + 1]? = some (.cells #[.int .i64 0, .slice none 0 0, .slice none 0 0, .slice none 0 0, .slice none 0 0, .slice none 0 0, .int .i64 0, .int .i64 0] 31 (0, 0)) from hw3 ▸ blk_old KR.out)
 have BW := hd9 (show Below w.heap.size w w3 from hw3 ▸ B2.out.alloc B2.out.size _)
 have U := hd9 (show Und L0 w3 _ _ _ _ _ _ _ _ _ _ _ _ from hw3 ▸ U.out.below (below1 w2 _))
 have SL := Nat.le_trans SL (show w2.heap.size ≤ w3.heap.size from hw3 ▸ (by simp))
 rw [hw3]
 clear hw3
 obtain ⟨b, hb⟩ : ∃ b, w2.heap.size = b := ⟨_, rfl⟩
 rw [hb] at KB UF hrb ⊢
 clear hb B2 B1
 refine (CI.out _ BW.out).mono ?_
 rintro e w4 ⟨v4, rfl, hit⟩
 obtain ⟨s4, n4, c4, rfl⟩ := hit.form
 have hbw3 := (gs9.1 KB.out).1
 have U := hd9 (U.out.setI (row_lo hit.row SL) (moved_new hit.row) (fun g _ hg _ => hit.below.block g hg) hit.below.size)
 have UF := hd9 (show UFree b _ _ _ _ _ _ from ⟨ufree_of UF.out.1 (moved_new hit.row) hbw3, UF.out.2⟩)
 have BW := hd9 (below_then BW.out hit.below)
 have SL := Nat.le_trans SL hit.below.size
 have KA := hd9 (blk_below hit.below KA.out)
 have KB := hd9 (blk_below hit.below KB.out)
 have KR := hd9 (blk_below hit.below KR.out)
 have SB4 := hit.below.size
 clear hit hbw3
 obtain ⟨a0, a1, a2, a3, a4, a5, a6, a7⟩ := vec8 KA.out
 obtain ⟨k0, k1, k2, k3, k4, k5, k6, k7⟩ := vec8 KB.out
 obtain ⟨g0, g1, g2, g3, g4, g5, g6, g7⟩ := free8 KB.out
 have hbw := (gs9.1 KB.out).1
 go_upto_region 3 with (fail)
 clear a0 a1 a2 a3 a4 a5 a6 a7 k0 k1 k2 k3 k4 k5 k6 k7 g0 g1 g2 g3 g4 g5 g6 g7 hbw
 obtain ⟨w5, hw⟩ : ∃ W, w4.setCell ⟨b, 1, none⟩ (.slice s4 n4 c4) = W := ⟨_, rfl⟩
 have KB := hd9 (show w5.heap[b]? = some (.cells #[.int .i64 kk, .slice s4 n4 c4, .slice none 0 0, .slice none 0 0, .slice sc nc qc, .slice sl nl ql, .int .i64 0, .int .i64 0] 31 (0, 0)) from hw ▸ Joins.block_setCell KB.out _)
 have KA := hd9 (show w5.heap[w.heap.size]? = some (.cells #[.int .i64 kk, .slice ai items.length ci, .slice ap parts.length cp, .slice an names.length cn, .slice ac cls.length cc, .slice al levels.length cl, .int .i64 code, .int .i64 env] 31 (0, 0)) from hw ▸ (Below.heap_setCell _ _ _ _ (show w.heap.size ≠ b by omega)).trans KA.out)
 have KR := hd9 (show w5.heap[w.heap.size + 1]? = some (.cells #[.int .i64 0, .slice none 0 0, .slice none 0 0, .slice none 0 0, .slice none 0 0, .slice none 0 0, .int .i64 0, .int .i64 0] 31 (0, 0)) from hw ▸ (Below.heap_setCell _ _ _ _ (show w.heap.size + 1 ≠ b by omega)).trans KR.out)
 have BW := hd9 (show Below w.heap.size w w5 from hw ▸ BW.out.setCell (p := ⟨b, 1, none⟩) (show w.heap.size ≤ b by omega) _)
 have U := hd9 (show Und L0 w5 _ _ _ _ _ _ _ _ _ _ _ _ from hw ▸ U.out.put2 UF.out)
 have SL := Nat.le_trans SL (show w4.heap.size ≤ w5.heap.size from hw ▸ (by simp))
 rw [hw]
 clear hw
 obtain ⟨a0, a1, a2, a3, a4, a5, a6, a7⟩ := vec8 KA.out
 go_wp2_with fail
 refine (CV.out _ BW.out).mono ?_
 rintro e w6 ⟨s6, c6, rfl, hvs, b'⟩
 have BV := hd9 (below_then BW.out b')
 have SL := Nat.le_trans SL b'.size
 have KA := hd9 (blk_below b' KA.out)
 have KB := hd9 (blk_below b' KB.out)
 have KR := hd9 (blk_below b' KR.out)
 have SB6 := b'.size
 have U := hd9 (U.out.below b')
 have HV := hd9 hvs
 clear hvs b' a0 a1 a2 a3 a4 a5 a6 a7
 go_wp2_with fail
 refine (CP.out _ _ _ HV.out).mono ?_
 rintro e w7 ⟨v7, F, rfl, hop, hnd, hrg, b', xs, hxs⟩
 obtain ⟨X, hrx, hxn, hxf, hxo⟩ := hop.rowX hnd (row_lo hxs SL)
 obtain ⟨s7, n7, c7, rfl⟩ : ∃ s n c, v7 = .slice s n c := by
  obtain ⟨_, ⟨e, _⟩ | ⟨g, cap, cur, e, _⟩⟩ := hxs
  ·exact ⟨_, _, _, e⟩
  ·exact ⟨_, _, _, e⟩
 have hbw6 := (gs9.1 KB.out).1
 have U := hd9 (U.out.setP hrx (moved_new hxs) (fun g _ hg _ => b'.block g hg) b'.size hxn (fun g hg => ⟨.inr (hrg g (hxf g hg)).1, (hrg g (hxf g hg)).2⟩) SL hxo)
 have UF := hd9 (show UFree b _ _ _ _ _ X from ⟨UF.out.1, ufree_of UF.out.2.1 (moved_new hxs) hbw6, UF.out.2.2.1, UF.out.2.2.2.1, UF.out.2.2.2.2.1, fun e => by have := (hrg b (hxf b e)).1; omega⟩)
 have BW := hd9 (below_then BV.out b')
 have SL := Nat.le_trans SL b'.size
 have KA := hd9 (blk_below b' KA.out)
 have KB := hd9 (blk_below b' KB.out)
 have KR := hd9 (blk_below b' KR.out)
 have SB7 := b'.size
 clear hop hnd hrg b' hxs hrx hxn hxf hxo hbw6 HV
 obtain ⟨a0, a1, a2, a3, a4, a5, a6, a7⟩ := vec8 KA.out
 obtain ⟨k0, k1, k2, k3, k4, k5, k6, k7⟩ := vec8 KB.out
 obtain ⟨g0, g1, g2, g3, g4, g5, g6, g7⟩ := free8 KB.out
 have hbw := (gs9.1 KB.out).1
 go_upto_region 4 with (fail)
 clear a0 a1 a2 a3 a4 a5 a6 a7 k0 k1 k2 k3 k4 k5 k6 k7 g0 g1 g2 g3 g4 g5 g6 g7 hbw
 obtain ⟨w8, hw⟩ : ∃ W, w7.setCell ⟨b, 2, none⟩ (.slice s7 n7 c7) = W := ⟨_, rfl⟩
 have KB := hd9 (show w8.heap[b]? = some (.cells #[.int .i64 kk, .slice s4 n4 c4, .slice s7 n7 c7, .slice none 0 0, .slice sc nc qc, .slice sl nl ql, .int .i64 0, .int .i64 0] 31 (0, 0)) from hw ▸ Joins.block_setCell KB.out _)
 have KA := hd9 (show w8.heap[w.heap.size]? = some (.cells #[.int .i64 kk, .slice ai items.length ci, .slice ap parts.length cp, .slice an names.length cn, .slice ac cls.length cc, .slice al levels.length cl, .int .i64 code, .int .i64 env] 31 (0, 0)) from hw ▸ (Below.heap_setCell _ _ _ _ (show w.heap.size ≠ b by omega)).trans KA.out)
 have KR := hd9 (show w8.heap[w.heap.size + 1]? = some (.cells #[.int .i64 0, .slice none 0 0, .slice none 0 0, .slice none 0 0, .slice none 0 0, .slice none 0 0, .int .i64 0, .int .i64 0] 31 (0, 0)) from hw ▸ (Below.heap_setCell _ _ _ _ (show w.heap.size + 1 ≠ b by omega)).trans KR.out)
 have BW := hd9 (show Below w.heap.size w w8 from hw ▸ BW.out.setCell (p := ⟨b, 2, none⟩) (show w.heap.size ≤ b by omega) _)
 have U := hd9 (show Und L0 w8 _ _ _ _ _ _ _ _ _ _ _ _ from hw ▸ U.out.put2 UF.out)
 have SL := Nat.le_trans SL (show w7.heap.size ≤ w8.heap.size from hw ▸ (by simp))
 rw [hw]
 clear hw
 obtain ⟨a0, a1, a2, a3, a4, a5, a6, a7⟩ := vec8 KA.out
 go_wp2_with fail
 refine (CT.out _ BW.out).mono ?_
 rintro e w9 ⟨v9, rfl, htx⟩
 obtain ⟨s9, n9, c9, rfl⟩ := htx.form
 obtain rfl := htx.slice
 have hbw8 := (gs9.1 KB.out).1
 have HT := hd9 htx
 have BX := hd9 BW.out
 have BW := hd9 (below_then BW.out htx.below)
 have SL9 := SL
 have SL := Nat.le_trans SL htx.below.size
 have KA := hd9 (blk_below htx.below KA.out)
 have KB := hd9 (blk_below htx.below KB.out)
 have KR := hd9 (blk_below htx.below KR.out)
 have SB9 := htx.below.size
 clear htx a0 a1 a2 a3 a4 a5 a6 a7
 go_wp2_with fail
 refine (CK.out _ _ _ _ _ HT.out.texts).mono ?_
 rintro e w10 ⟨hk, rfl⟩
 rcases hk with ⟨ek, rfl⟩ | ⟨ek, rfl⟩
 ·have U := hd9 (U.out.setN (row_lo HT.out.row SL9) (moved_new HT.out.row) (fun g _ hg _ => HT.out.below.block g hg) HT.out.below.size)
  have UF := hd9 (show UFree b _ _ _ _ _ X from ⟨UF.out.1, UF.out.2.1, ufree_of UF.out.2.2.1 (moved_new HT.out.row) hbw8, UF.out.2.2.2⟩)
  rw [ek] at EV
  clear HT ek hbw8 BX
  obtain ⟨a0, a1, a2, a3, a4, a5, a6, a7⟩ := vec8 KA.out
  obtain ⟨k0, k1, k2, k3, k4, k5, k6, k7⟩ := vec8 KB.out
  obtain ⟨g0, g1, g2, g3, g4, g5, g6, g7⟩ := free8 KB.out
  have hbw := (gs9.1 KB.out).1
  go_upto_region 5 with (fail)
  clear a0 a1 a2 a3 a4 a5 a6 a7 k0 k1 k2 k3 k4 k5 k6 k7 g0 g1 g2 g3 g4 g5 g6 g7 hbw
  obtain ⟨w11, hw⟩ : ∃ W, w9.setCell ⟨b, 3, none⟩ (.slice s9 T.length c9) = W := ⟨_, rfl⟩
  have KB := hd9 (show w11.heap[b]? = some (.cells #[.int .i64 kk, .slice s4 n4 c4, .slice s7 n7 c7, .slice s9 T.length c9, .slice sc nc qc, .slice sl nl ql, .int .i64 0, .int .i64 0] 31 (0, 0)) from hw ▸ Joins.block_setCell KB.out _)
  have KA := hd9 (show w11.heap[w.heap.size]? = some (.cells #[.int .i64 kk, .slice ai items.length ci, .slice ap parts.length cp, .slice an names.length cn, .slice ac cls.length cc, .slice al levels.length cl, .int .i64 code, .int .i64 env] 31 (0, 0)) from hw ▸ (Below.heap_setCell _ _ _ _ (show w.heap.size ≠ b by omega)).trans KA.out)
  have KR := hd9 (show w11.heap[w.heap.size + 1]? = some (.cells #[.int .i64 0, .slice none 0 0, .slice none 0 0, .slice none 0 0, .slice none 0 0, .slice none 0 0, .int .i64 0, .int .i64 0] 31 (0, 0)) from hw ▸ (Below.heap_setCell _ _ _ _ (show w.heap.size + 1 ≠ b by omega)).trans KR.out)
  have BW := hd9 (show Below w.heap.size w w11 from hw ▸ BW.out.setCell (p := ⟨b, 3, none⟩) (show w.heap.size ≤ b by omega) _)
  have U := hd9 (show Und L0 w11 _ _ _ _ _ _ _ _ _ _ _ _ from hw ▸ U.out.put2 UF.out)
  have SL := Nat.le_trans SL (show w9.heap.size ≤ w11.heap.size from hw ▸ (by simp))
  rw [hw]
  clear hw
  have O := hd9 (U.out.own kk)
  rw [← EV.out] at O
  clear EV
  obtain ⟨k0, k1, k2, k3, k4, k5, k6, k7⟩ := vec8 KB.out
  obtain ⟨z0, z1, z2, z3, z4, z5, z6, z7⟩ := vec8 KR.out
  obtain ⟨f0, f1, f2, f3, f4, f5, f6, f7⟩ := free8 KR.out
  go_wp2
  exact vec_end rfl rfl rfl KR.out ⟨_, rfl, (O.out.put8 hL1 _ _ _ _ _ _ _ _).wide (by omega) (by rw [put8_size]; exact Nat.le_refl _), put8_below BW.out (Nat.le_succ _)⟩
 ·rw [ek] at EV
  have U := hd9 (U.out.below HT.out.below)
  clear HT ek hbw8 BX
  obtain ⟨a0, a1, a2, a3, a4, a5, a6, a7⟩ := vec8 KA.out
  obtain ⟨k0, k1, k2, k3, k4, k5, k6, k7⟩ := vec8 KB.out
  obtain ⟨g0, g1, g2, g3, g4, g5, g6, g7⟩ := free8 KB.out
  have hbw := (gs9.1 KB.out).1
  go_upto_region 5 with (fail)
  clear a0 a1 a2 a3 a4 a5 a6 a7 k0 k1 k2 k3 k4 k5 k6 k7 g0 g1 g2 g3 g4 g5 g6 g7 hbw
  obtain ⟨w11, hw⟩ : ∃ W, w9.setCell ⟨b, 3, none⟩ (.slice none 0 0) = W := ⟨_, rfl⟩
  have KB := hd9 (show w11.heap[b]? = some (.cells #[.int .i64 kk, .slice s4 n4 c4, .slice s7 n7 c7, .slice none 0 0, .slice sc nc qc, .slice sl nl ql, .int .i64 0, .int .i64 0] 31 (0, 0)) from hw ▸ Joins.block_setCell KB.out _)
  have KA := hd9 (show w11.heap[w.heap.size]? = some (.cells #[.int .i64 kk, .slice ai items.length ci, .slice ap parts.length cp, .slice an names.length cn, .slice ac cls.length cc, .slice al levels.length cl, .int .i64 code, .int .i64 env] 31 (0, 0)) from hw ▸ (Below.heap_setCell _ _ _ _ (show w.heap.size ≠ b by omega)).trans KA.out)
  have KR := hd9 (show w11.heap[w.heap.size + 1]? = some (.cells #[.int .i64 0, .slice none 0 0, .slice none 0 0, .slice none 0 0, .slice none 0 0, .slice none 0 0, .int .i64 0, .int .i64 0] 31 (0, 0)) from hw ▸ (Below.heap_setCell _ _ _ _ (show w.heap.size + 1 ≠ b by omega)).trans KR.out)
  have BW := hd9 (show Below w.heap.size w w11 from hw ▸ BW.out.setCell (p := ⟨b, 3, none⟩) (show w.heap.size ≤ b by omega) _)
  have U := hd9 (show Und L0 w11 _ _ _ _ _ _ _ _ _ _ _ _ from hw ▸ U.out.put2 UF.out)
  have SL := Nat.le_trans SL (show w9.heap.size ≤ w11.heap.size from hw ▸ (by simp))
  rw [hw]
  clear hw
  have O := hd9 (U.out.own kk)
  rw [← EV.out] at O
  clear EV
  obtain ⟨k0, k1, k2, k3, k4, k5, k6, k7⟩ := vec8 KB.out
  obtain ⟨z0, z1, z2, z3, z4, z5, z6, z7⟩ := vec8 KR.out
  obtain ⟨f0, f1, f2, f3, f4, f5, f6, f7⟩ := free8 KR.out
  go_wp2
  exact vec_end rfl rfl rfl KR.out ⟨_, rfl, (O.out.put8 hL1 _ _ _ _ _ _ _ _).wide (by omega) (by rw [put8_size]; exact Nat.le_refl _), put8_below BW.out (Nat.le_succ _)⟩
end Go.Proofs.YteoalkjngkcheaaGreat

/- The program's copies of vectors, with the rows of what they are made of. -/
namespace Go.Proofs.YteoalkjngkcheaaGreat
open Go.RowKit
set_option maxRecDepth 100000
set_option linter.unusedVariables false

/-- A copy of items, with its row. -/
theorem wpList_copyIz {w0 w : World} {ops : Array Oper} {rest : List Oper} {o : Oper} {a : Act} {Q : Exit → Act → World → Prop} (hgd : o.guard = none) (s x : Operand)
  (ho : o.op = .call { callee := .builtin .append, args := #[s, x], argTypes := #[28, 28] }) (hs : a.eval s = .slice none 0 0) (hb : Below w0.heap.size w0 w)
  (ad : Option Addr) (c : Nat) (l : List It) (lo hi : Nat) (hx : a.eval x = .slice ad l.length c) (hT : ItemsAt lo hi w ad l) (hn : l.length ≤ 1048576)
  (h : ∀ v' w', ItR w0 w' l v' → wpList Tryz.prog ops Q rest (a.put o.dst v') w') : wpList Tryz.prog ops Q (o :: rest) a w := by
 have hown : w.ownsRow w0.heap.size 64 3 (.slice none 0 0) 0 [] := ⟨rfl, .inl ⟨rfl, rfl⟩⟩
 by_cases hpos : 0 < l.length
 ·obtain ⟨b, off, rfl⟩ := items_some hT hpos
  obtain ⟨i0, hi0, hz0, hz1, hz2⟩ := info_parts infoItm3
  refine wpList_append_own w hgd s x 28 ho w0.heap.size 64 i0 _ 3 32 Tryz.underlying28 hi0 hz0 hz1 hz2 rfl (by decide) _ 0 [] hs hown ⟨b, off, none⟩ l.length c (itCells l) hx (by rw [itCells_len]) (itCells_in hT) (itCells_one l) (by unfold maxLen; omega) (by omega) hb.size (fun v' w' h1 h2 _ => ?_)
  exact h v' w' ⟨by simpa using h1, hb.grown h2 hb.size (fun r hr => (hown.lt r hr).1)⟩
 ·obtain rfl : l = [] := List.eq_nil_of_length_eq_zero (by omega)
  have hrun := fun ty => run_app0I (w := w) (ty := ty) (dst := .slice none 0 0) (.inl rfl) ad c
  refine wpList_plain hgd fun K hK => ?_
  have hnext := h (.slice none 0 0) w ⟨hown, hb⟩
  have hx' : a.eval x = .slice ad 0 c := hx
  unfold Oper.wp
  simp [execOp, ho, resolve, invoke, builtin, hs, hx', hrun, Result.andThen]
  exact hK _ _ hnext
set_option maxHeartbeats 4000000 in
theorem implCopyU (d : Nat) (kk : Int) (items : List It) (parts : List Vec) (names cls levels : List ByteArray) (code env : Int) (ai ap an ac al : Option Addr) (ci cp cn cc cl lo hi : Nat) (w : World) (hI : ItemsAt lo hi w ai items) (hP : VecsAt lo hi w d ap parts) (hN : TextsAt lo hi w an names) (hC : TextsAt lo hi w ac cls) (hL : TextsAt lo hi w al levels) (hhi : hi ≤ w.heap.size)
  (li : items.length ≤ 1048576) (lp : parts.length ≤ 1048576) (ln : names.length ≤ 1048576) (lc : cls.length ≤ 1048576) (ll : levels.length ≤ 1048576) (hsp : ∀ i, i < parts.length → Small d (parts.getD i noV)) :
  Calls Tryz.prog 64 #[.agg #[.int .i64 kk, .slice ai items.length ci, .slice ap parts.length cp, .slice an names.length cn, .slice ac cls.length cc, .slice al levels.length cl, .int .i64 code, .int .i64 env]] w fun e w' => ∃ (s1 : Option Addr) (n1 c1 : Nat) (s2 : Option Addr) (n2 c2 : Nat) (s3 : Option Addr) (n3 c3 : Nat) (s4 : Option Addr) (n4 c4 : Nat) (s5 : Option Addr) (n5 c5 : Nat) (X : List Nat), e = .returned (.agg #[.int .i64 kk, .slice s1 n1 c1, .slice s2 n2 c2, .slice s3 n3 c3, .slice s4 n4 c4, .slice s5 n5 c5, .int .i64 code, .int .i64 env]) ∧
   Und w.heap.size w' d items parts names cls levels (.slice s1 n1 c1) (.slice s2 n2 c2) (.slice s3 n3 c3) (.slice s4 n4 c4) (.slice s5 n5 c5) X ∧ Below w.heap.size w w' := by
 have HI := hd9 (fun (w1 : World) (hb : Below w.heap.size w w1) => hI.below hb hhi)
 have CP := hd9 (fun (w1 : World) (hb : Below w.heap.size w w1) => (icsAll d).out parts ap cp lo hi w1 (hP.below hb hhi) (Nat.le_trans hhi hb.size) hsp lp)
 have CT3 := hd9 (fun (w1 : World) (hb : Below w.heap.size w w1) => implCopyTz names an cn lo hi w1 (hN.below hb hhi) ln)
 have CT4 := hd9 (fun (w1 : World) (hb : Below w.heap.size w w1) => implCopyTz cls ac cc lo hi w1 (hC.below hb hhi) lc)
 have CT5 := hd9 (fun (w1 : World) (hb : Below w.heap.size w w1) => implCopyTz levels al cl lo hi w1 (hL.below hb hhi) ll)
 clear hI hN hC hL hP hsp
 go_enter Tryz.func64, Tryz.ntmps64
 obtain ⟨w1, hw1⟩ : ∃ W, (w.alloc (.cells #[.int .i64 kk, .slice ai items.length ci, .slice ap parts.length cp, .slice an names.length cn, .slice ac cls.length cc, .slice al levels.length cl, .int .i64 code, .int .i64 env] 31)).alloc (.cells #[.int .i64 0, .slice none 0 0, .slice none 0 0, .slice none 0 0, .slice none 0 0, .slice none 0 0, .int .i64 0, .int .i64 0] 31) = W := ⟨_, rfl⟩
 have hsz : (w.alloc (.cells #[.int .i64 kk, .slice ai items.length ci, .slice ap parts.length cp, .slice an names.length cn, .slice ac cls.length cc, .slice al levels.length cl, .int .i64 code, .int .i64 env] 31)).heap.size = w.heap.size + 1 := by simp
 have B1 := hd9 (show Below w.heap.size w w1 from hw1 ▸ (below1 w _).alloc (by simp) _)
 have KA := hd9 (show w1.heap[w.heap.size]? = some (.cells #[.int .i64 kk, .slice ai items.length ci, .slice ap parts.length cp, .slice an names.length cn, .slice ac cls.length cc, .slice al levels.length cl, .int .i64 code, .int .i64 env] 31 (0, 0)) from hw1 ▸ blk_old (blk_new w _ rfl))
 have KR := hd9 (show w1.heap[w.heap.size + 1]? = some (.cells #[.int .i64 0, .slice none 0 0, .slice none 0 0, .slice none 0 0, .slice none 0 0, .slice none 0 0, .int .i64 0, .int .i64 0] 31 (0, 0)) from hw1 ▸ hsz ▸ blk_new (w.alloc (.cells #[.int .i64 kk, .slice ai items.length ci, .slice ap parts.length cp, .slice an names.length cn, .slice ac cls.length cc, .slice al levels.length cl, .int .i64 code, .int .i64 env] 31)) (.cells #[.int .i64 0, .slice none 0 0, .slice none 0 0, .slice none 0 0, .slice none 0 0, .slice none 0 0, .int .i64 0, .int .i64 0] 31) rfl)
 have L0' : w.heap.size + 1 < w1.heap.size := (gs9.1 KR.out).1
 obtain ⟨L0, hL0⟩ : ∃ L0, w1.heap.size = L0 := ⟨_, rfl⟩
 have LA := hd9 (show w.heap.size < L0 by omega)
 have LR := hd9 (show w.heap.size + 1 < L0 by omega)
 have SL := hd9 (show L0 ≤ w1.heap.size by omega)
 have U := hd9 (Und.start L0 w1 d)
 have EW := hd9 hw1
 clear hw1 hsz hL0 L0'
 go_wp2_with (at_builtin; rw [EW.out]; refine wpList_copyIz (w0 := w1) rfl _ _ rfl rfl (Below.refl _ _) ai ci items lo hi rfl (HI.out _ B1.out) li ?_)
 intro v' w2 hit
 obtain ⟨s1, n1, c1, rfl⟩ := hit.form
 have U := hd9 (U.out.setI (row_lo hit.row SL.out) (moved_new hit.row) (fun g _ hg _ => hit.below.block g hg) hit.below.size)
 have B1 := hd9 (below_then B1.out hit.below)
 have SL := hd9 (Nat.le_trans SL.out hit.below.size)
 have KA := hd9 (blk_below hit.below KA.out)
 have KR := hd9 (blk_below hit.below KR.out)
 clear hit
 have u2 : ∃ x, w2.cell? ⟨w.heap.size, 1, none⟩ = some x := ⟨_, cellOf KA.out rfl⟩
 obtain ⟨x2, hx2⟩ := u2
 have hf2 : w2.frozen? ⟨w.heap.size, 1, none⟩ = false := freeOf KA.out
 obtain ⟨w3, hw⟩ : ∃ W, w2.setCell ⟨w.heap.size, 1, none⟩ (.slice s1 n1 c1) = W := ⟨_, rfl⟩
 have KA' := hd9 (show w3.heap[w.heap.size]? = some (.cells #[.int .i64 kk, .slice s1 n1 c1, .slice ap parts.length cp, .slice an names.length cn, .slice ac cls.length cc, .slice al levels.length cl, .int .i64 code, .int .i64 env] 31 (0, 0)) from hw ▸ Joins.block_setCell KA.out _)
 have KR := hd9 (show w3.heap[w.heap.size + 1]? = some (.cells #[.int .i64 0, .slice none 0 0, .slice none 0 0, .slice none 0 0, .slice none 0 0, .slice none 0 0, .int .i64 0, .int .i64 0] 31 (0, 0)) from hw ▸ (Below.heap_setCell _ _ _ _ (by show w.heap.size + 1 ≠ w.heap.size; omega)).trans KR.out)
 have B1 := hd9 (show Below w.heap.size w w3 from hw ▸ B1.out.setCell (p := ⟨w.heap.size, 1, none⟩) (Nat.le_refl _) _)
 have SL := hd9 (Nat.le_trans SL.out (show w2.heap.size ≤ w3.heap.size from hw ▸ (by simp)))
 have U := hd9 (show Und L0 w3 _ _ _ _ _ _ _ _ _ _ _ _ from hw ▸ U.out.put LA.out)
 have EW3 := hd9 hw
 clear hw
 obtain ⟨k0, k1, k2, k3, k4, k5, k6, k7⟩ := vec8 KA.out
 go_wp2_with fail
 rw [EW3.out]
 clear k0 k1 k2 k3 k4 k5 k6 k7 hx2 hf2 KA
 have KA := KA'
 clear KA'
 refine (CP.out _ B1.out).mono ?_
 rintro e w4 ⟨v, F, rfl, hop, hnd, hrg, hb, xs, hxs⟩
 obtain ⟨X, hrx, hxn, hxf, hxo⟩ := hop.rowX hnd (row_lo hxs SL.out)
 obtain ⟨s2, n2, c2, rfl⟩ : ∃ s n c, v = .slice s n c := by
  obtain ⟨_, ⟨e, _⟩ | ⟨g, cap, cur, e, _⟩⟩ := hxs
  ·exact ⟨_, _, _, e⟩
  ·exact ⟨_, _, _, e⟩
 have U := hd9 (U.out.setP hrx (moved_new hxs) (fun g _ hg _ => hb.block g hg) hb.size hxn (fun g hg => ⟨.inr (hrg g (hxf g hg)).1, (hrg g (hxf g hg)).2⟩) SL.out hxo)
 have B1 := hd9 (below_then B1.out hb)
 have SL := hd9 (Nat.le_trans SL.out hb.size)
 have KA := hd9 (blk_below hb KA.out)
 have KR := hd9 (blk_below hb KR.out)
 clear hop hnd hrg hb hxs hrx hxn hxf hxo
 have u4 : ∃ x, w4.cell? ⟨w.heap.size, 2, none⟩ = some x := ⟨_, cellOf KA.out rfl⟩
 obtain ⟨x4, hx4⟩ := u4
 have hf4 : w4.frozen? ⟨w.heap.size, 2, none⟩ = false := freeOf KA.out
 obtain ⟨w5, hw⟩ : ∃ W, w4.setCell ⟨w.heap.size, 2, none⟩ (.slice s2 n2 c2) = W := ⟨_, rfl⟩
 have KA' := hd9 (show w5.heap[w.heap.size]? = some (.cells #[.int .i64 kk, .slice s1 n1 c1, .slice s2 n2 c2, .slice an names.length cn, .slice ac cls.length cc, .slice al levels.length cl, .int .i64 code, .int .i64 env] 31 (0, 0)) from hw ▸ Joins.block_setCell KA.out _)
 have KR := hd9 (show w5.heap[w.heap.size + 1]? = some (.cells #[.int .i64 0, .slice none 0 0, .slice none 0 0, .slice none 0 0, .slice none 0 0, .slice none 0 0, .int .i64 0, .int .i64 0] 31 (0, 0)) from hw ▸ (Below.heap_setCell _ _ _ _ (by show w.heap.size + 1 ≠ w.heap.size; omega)).trans KR.out)
 have B1 := hd9 (show Below w.heap.size w w5 from hw ▸ B1.out.setCell (p := ⟨w.heap.size, 2, none⟩) (Nat.le_refl _) _)
 have SL := hd9 (Nat.le_trans SL.out (show w4.heap.size ≤ w5.heap.size from hw ▸ (by simp)))
 have U := hd9 (show Und L0 w5 _ _ _ _ _ _ _ _ _ _ _ _ from hw ▸ U.out.put LA.out)
 have EW5 := hd9 hw
 clear hw
 obtain ⟨k0, k1, k2, k3, k4, k5, k6, k7⟩ := vec8 KA.out
 go_wp2_with fail
 rw [EW5.out]
 clear k0 k1 k2 k3 k4 k5 k6 k7 hx4 hf4 KA
 have KA := KA'
 clear KA'
 refine (CT3.out _ B1.out).mono ?_
 rintro e w6 ⟨v, rfl, tz⟩
 obtain ⟨s3, n3, c3, rfl⟩ := tz.form
 have U := hd9 (U.out.setN (row_lo tz.row SL.out) (moved_new tz.row) (fun g _ hg _ => tz.below.block g hg) tz.below.size)
 have B1 := hd9 (below_then B1.out tz.below)
 have SL := hd9 (Nat.le_trans SL.out tz.below.size)
 have KA := hd9 (blk_below tz.below KA.out)
 have KR := hd9 (blk_below tz.below KR.out)
 clear tz
 have u6 : ∃ x, w6.cell? ⟨w.heap.size, 3, none⟩ = some x := ⟨_, cellOf KA.out rfl⟩
 obtain ⟨x6, hx6⟩ := u6
 have hf6 : w6.frozen? ⟨w.heap.size, 3, none⟩ = false := freeOf KA.out
 obtain ⟨w7, hw⟩ : ∃ W, w6.setCell ⟨w.heap.size, 3, none⟩ (.slice s3 n3 c3) = W := ⟨_, rfl⟩
 have KA' := hd9 (show w7.heap[w.heap.size]? = some (.cells #[.int .i64 kk, .slice s1 n1 c1, .slice s2 n2 c2, .slice s3 n3 c3, .slice ac cls.length cc, .slice al levels.length cl, .int .i64 code, .int .i64 env] 31 (0, 0)) from hw ▸ Joins.block_setCell KA.out _)
 have KR := hd9 (show w7.heap[w.heap.size + 1]? = some (.cells #[.int .i64 0, .slice none 0 0, .slice none 0 0, .slice none 0 0, .slice none 0 0, .slice none 0 0, .int .i64 0, .int .i64 0] 31 (0, 0)) from hw ▸ (Below.heap_setCell _ _ _ _ (by show w.heap.size + 1 ≠ w.heap.size; omega)).trans KR.out)
 have B1 := hd9 (show Below w.heap.size w w7 from hw ▸ B1.out.setCell (p := ⟨w.heap.size, 3, none⟩) (Nat.le_refl _) _)
 have SL := hd9 (Nat.le_trans SL.out (show w6.heap.size ≤ w7.heap.size from hw ▸ (by simp)))
 have U := hd9 (show Und L0 w7 _ _ _ _ _ _ _ _ _ _ _ _ from hw ▸ U.out.put LA.out)
 have EW7 := hd9 hw
 clear hw
 obtain ⟨k0, k1, k2, k3, k4, k5, k6, k7⟩ := vec8 KA.out
 go_wp2_with fail
 rw [EW7.out]
 clear k0 k1 k2 k3 k4 k5 k6 k7 hx6 hf6 KA
 have KA := KA'
 clear KA'
 refine (CT4.out _ B1.out).mono ?_
 rintro e w8 ⟨v, rfl, tz⟩
 obtain ⟨s4, n4, c4, rfl⟩ := tz.form
 have U := hd9 (U.out.setC (row_lo tz.row SL.out) (moved_new tz.row) (fun g _ hg _ => tz.below.block g hg) tz.below.size)
 have B1 := hd9 (below_then B1.out tz.below)
 have SL := hd9 (Nat.le_trans SL.out tz.below.size)
 have KA := hd9 (blk_below tz.below KA.out)
 have KR := hd9 (blk_below tz.below KR.out)
 clear tz
 have u8 : ∃ x, w8.cell? ⟨w.heap.size, 4, none⟩ = some x := ⟨_, cellOf KA.out rfl⟩
 obtain ⟨x8, hx8⟩ := u8
 have hf8 : w8.frozen? ⟨w.heap.size, 4, none⟩ = false := freeOf KA.out
 obtain ⟨w9, hw⟩ : ∃ W, w8.setCell ⟨w.heap.size, 4, none⟩ (.slice s4 n4 c4) = W := ⟨_, rfl⟩
 have KA' := hd9 (show w9.heap[w.heap.size]? = some (.cells #[.int .i64 kk, .slice s1 n1 c1, .slice s2 n2 c2, .slice s3 n3 c3, .slice s4 n4 c4, .slice al levels.length cl, .int .i64 code, .int .i64 env] 31 (0, 0)) from hw ▸ Joins.block_setCell KA.out _)
 have KR := hd9 (show w9.heap[w.heap.size + 1]? = some (.cells #[.int .i64 0, .slice none 0 0, .slice none 0 0, .slice none 0 0, .slice none 0 0, .slice none 0 0, .int .i64 0, .int .i64 0] 31 (0, 0)) from hw ▸ (Below.heap_setCell _ _ _ _ (by show w.heap.size + 1 ≠ w.heap.size; omega)).trans KR.out)
 have B1 := hd9 (show Below w.heap.size w w9 from hw ▸ B1.out.setCell (p := ⟨w.heap.size, 4, none⟩) (Nat.le_refl _) _)
 have SL := hd9 (Nat.le_trans SL.out (show w8.heap.size ≤ w9.heap.size from hw ▸ (by simp)))
 have U := hd9 (show Und L0 w9 _ _ _ _ _ _ _ _ _ _ _ _ from hw ▸ U.out.put LA.out)
 have EW9 := hd9 hw
 clear hw
 obtain ⟨k0, k1, k2, k3, k4, k5, k6, k7⟩ := vec8 KA.out
 go_wp2_with fail
 rw [EW9.out]
 clear k0 k1 k2 k3 k4 k5 k6 k7 hx8 hf8 KA
 have KA := KA'
 clear KA'
 refine (CT5.out _ B1.out).mono ?_
 rintro e w10 ⟨v, rfl, tz⟩
 obtain ⟨s5, n5, c5, rfl⟩ := tz.form
 have U := hd9 (U.out.setL (row_lo tz.row SL.out) (moved_new tz.row) (fun g _ hg _ => tz.below.block g hg) tz.below.size)
 have B1 := hd9 (below_then B1.out tz.below)
 have SL := hd9 (Nat.le_trans SL.out tz.below.size)
 have KA := hd9 (blk_below tz.below KA.out)
 have KR := hd9 (blk_below tz.below KR.out)
 clear tz
 have u10 : ∃ x, w10.cell? ⟨w.heap.size, 5, none⟩ = some x := ⟨_, cellOf KA.out rfl⟩
 obtain ⟨x10, hx10⟩ := u10
 have hf10 : w10.frozen? ⟨w.heap.size, 5, none⟩ = false := freeOf KA.out
 obtain ⟨w11, hw⟩ : ∃ W, w10.setCell ⟨w.heap.size, 5, none⟩ (.slice s5 n5 c5) = W := ⟨_, rfl⟩
 have KA' := hd9 (show w11.heap[w.heap.size]? = some (.cells #[.int .i64 kk, .slice s1 n1 c1, .slice s2 n2 c2, .slice s3 n3 c3, .slice s4 n4 c4, .slice s5 n5 c5, .int .i64 code, .int .i64 env] 31 (0, 0)) from hw ▸ Joins.block_setCell KA.out _)
 have KR := hd9 (show w11.heap[w.heap.size + 1]? = some (.cells #[.int .i64 0, .slice none 0 0, .slice none 0 0, .slice none 0 0, .slice none 0 0, .slice none 0 0, .int .i64 0, .int .i64 0] 31 (0, 0)) from hw ▸ (Below.heap_setCell _ _ _ _ (by show w.heap.size + 1 ≠ w.heap.size; omega)).trans KR.out)
 have B1 := hd9 (show Below w.heap.size w w11 from hw ▸ B1.out.setCell (p := ⟨w.heap.size, 5, none⟩) (Nat.le_refl _) _)
 have SL := hd9 (Nat.le_trans SL.out (show w10.heap.size ≤ w11.heap.size from hw ▸ (by simp)))
 have U := hd9 (show Und L0 w11 _ _ _ _ _ _ _ _ _ _ _ _ from hw ▸ U.out.put LA.out)
 have EW11 := hd9 hw
 clear hw
 obtain ⟨k0, k1, k2, k3, k4, k5, k6, k7⟩ := vec8 KA.out
 go_upto_region 6 with (fail)
 rw [EW11.out]
 clear k0 k1 k2 k3 k4 k5 k6 k7 hx10 hf10 KA
 have KA := KA'
 clear KA'
 obtain ⟨k0, k1, k2, k3, k4, k5, k6, k7⟩ := vec8 KA.out
 obtain ⟨z0, z1, z2, z3, z4, z5, z6, z7⟩ := vec8 KR.out
 obtain ⟨f0, f1, f2, f3, f4, f5, f6, f7⟩ := free8 KR.out
 go_wp2
 refine vec_end rfl rfl rfl KR.out ⟨s1, n1, c1, s2, n2, c2, s3, n3, c3, s4, n4, c4, s5, n5, c5, X, rfl, ?_, put8_below B1.out (Nat.le_succ _)⟩
 exact (U.out.kept (fun g hg _ => put8_other (by have := LR.out; omega)) (by rw [put8_size]; exact Nat.le_refl _)).wide (by have := LA.out; omega)
end Go.Proofs.YteoalkjngkcheaaGreat

/- Names: the first equal one, or the only one that begins with a text, on both sides. -/
namespace Go.Proofs.YteoalkjngkcheaaGreat
open Go.RowKit
set_option maxRecDepth 100000
set_option linter.unusedVariables false

/-- Does t begin with s? -/
def preB (s t : ByteArray) : Bool := decide (s.size ≤ t.size) && ((t.extract 0 s.size).toList == s.toList)
def fldP (s : ByteArray) (f : Nat → ByteArray) (i : Nat) : Bool := preB s (f i)
def oneL (l : List Nat) : Int := match l with | [i] => (i : Int) | _ => -1
/-- The place of the name, or of the only one that begins with it. -/
def fldZ (s : ByteArray) (f : Nat → ByteArray) (n : Nat) : Int := if s.size = 0 then -1 else if 0 ≤ findF s f n 0 then findF s f n 0 else oneL (whN (fldP s f) n)
theorem oneL_two {l : List Nat} (h : l.length ≠ 1) : oneL l = -1 := by
 unfold oneL
 split
 ·exact absurd rfl h
 ·rfl
theorem oneL_one {l : List Nat} (h : l.length = 1) : oneL l = (l.getD 0 0 : Nat) := by
 match l, h with
 | [i], _ => rfl
theorem whN_mono (p : Nat → Bool) {k m : Nat} (h : k ≤ m) : (whN p k).length ≤ (whN p m).length := by
 induction h with
 | refl => exact Nat.le_refl _
 | step _ ih =>
  rename_i m _
  cases hp : p m with
  | true => rw [whN_yes hp, List.length_append]; omega
  | false => rw [whN_no hp]; exact ih
/-- What the reference has found among the first k. -/
def OneAt (p : Nat → Bool) (k : Nat) (z : Int) : Prop := (whN p k).length ≤ 1 ∧ z = oneL (whN p k)
theorem OneAt.zero (p : Nat → Bool) : OneAt p 0 (-1) := ⟨Nat.zero_le _, rfl⟩
theorem OneAt.no {p : Nat → Bool} {k : Nat} {z : Int} (h : OneAt p k z) (hp : p k = false) : OneAt p (k + 1) z := by
 unfold OneAt; rw [whN_no hp]; exact h
theorem OneAt.yes {p : Nat → Bool} {k : Nat} {z : Int} (h : OneAt p k z) (hp : p k = true) (hz : ¬ 0 ≤ z) : OneAt p (k + 1) k := by
 obtain ⟨h1, h2⟩ := h
 have h0 : (whN p k).length = 0 := by
  rcases Nat.eq_or_lt_of_le h1 with e | e
  ·rw [oneL_one e] at h2; omega
  ·omega
 have e := List.eq_nil_of_length_eq_zero h0
 unfold OneAt
 rw [whN_yes hp, e]
 exact ⟨Nat.le_refl _, rfl⟩
theorem OneAt.two {p : Nat → Bool} {k n : Nat} {z : Int} (h : OneAt p k z) (hp : p k = true) (hz : 0 ≤ z) (hn : k < n) : oneL (whN p n) = -1 := by
 obtain ⟨h1, h2⟩ := h
 have e1 : (whN p k).length = 1 := by
  rcases Nat.eq_or_lt_of_le h1 with e | e
  ·exact e
  ·have e0 := List.eq_nil_of_length_eq_zero (show (whN p k).length = 0 by omega)
   rw [e0] at h2
   rw [h2] at hz
   exact absurd hz (by decide)
 have h3 := whN_mono p (show k + 1 ≤ n from hn)
 rw [whN_yes hp, List.length_append, e1] at h3
 exact oneL_two (by simp only [List.length_cons, List.length_nil] at h3; omega)
theorem OneAt.lt {p : Nat → Bool} {k : Nat} {z : Int} (h : OneAt p k z) : -1 ≤ z ∧ z < k := by
 obtain ⟨h1, rfl⟩ := h
 by_cases e : (whN p k).length = 1
 ·rw [oneL_one e]
  have := (whN_at (p := p) (k := k) (i := 0) (by omega)).1
  omega
 ·rw [oneL_two e]; omega

/-! ## The program -/
set_option maxHeartbeats 1000000 in
theorem implIndexF (s : ByteArray) (a : Option Addr) (n cap : Nat) (f : Nat → ByteArray) (B : Nat) (w : World) (hs : StrsAt B w a n f) (hn : n ≤ 9223372036854775807) :
  Calls Tryz.prog 82 #[.slice a n cap, .string s] w fun e w' => e = .returned (.int .i64 (findF s f n 0)) ∧ w = w' := by
 have S := hd9 hs
 clear hs
 go_enter Tryz.func82, Tryz.ntmps82
 go_wp2
 go_loop [8] (fun i => ∃ k : Nat, k ≤ n ∧ i = .int .i64 k ∧ FindAt s f n k) (fun i => n - (intOf i).toNat)
 case atStart => exact ⟨0, Nat.zero_le _, rfl, rfl⟩
 case round =>
  obtain ⟨k, hk, rfl, hl⟩ := hrel
  have HL := hd9 hl
  clear hl
  by_cases hlt : k < n
  ·obtain ⟨b, off, rfl, hb, hc⟩ := S.out k hlt
   have hlt' : (k : Int) < (n : Int) := by omega
   cases hp : ((f k).toList == s.toList) with
   | true =>
    have X := hd9 (HL.out.yes hlt hp)
    have hp' : (s.toList == (f k).toList) = true := by rw [beq_iff_eq] at hp ⊢; exact hp.symm
    clear hp
    go_wp2
    go_ret
    exact ⟨ret_i64 X.out.symm, rfl⟩
   | false =>
    have X := hd9 (HL.out.no hlt hp)
    have hp' : (s.toList == (f k).toList) = false := by rw [beq_eq_false_iff_ne] at hp ⊢; exact Ne.symm hp
    clear hp
    go_wp2
    go_round
    case rel => exact ⟨k + 1, by omega, by go_num, X.out⟩
    case measure => simp [intOf]; omega
  ·have X := hd9 (HL.out.last hlt)
   go_wp2
   go_ret
   exact ⟨ret_i64 X.out.symm, rfl⟩
end Go.Proofs.YteoalkjngkcheaaGreat

/- ResolvePositions as data. -/
namespace Go.Proofs.YteoalkjngkcheaaGreat
open Go.RowKit
set_option maxRecDepth 100000
set_option linter.unusedVariables false

/-- "invalid subscript", "subscript out of bounds", "invalid names", "not a list" -/
def invB : ByteArray := ⟨#[105, 110, 118, 97, 108, 105, 100, 32, 115, 117, 98, 115, 99, 114, 105, 112, 116]⟩
def oobB : ByteArray := ⟨#[115, 117, 98, 115, 99, 114, 105, 112, 116, 32, 111, 117, 116, 32, 111, 102, 32, 98, 111, 117, 110, 100, 115]⟩
def innB : ByteArray := ⟨#[105, 110, 118, 97, 108, 105, 100, 32, 110, 97, 109, 101, 115]⟩
def nltB : ByteArray := ⟨#[110, 111, 116, 32, 97, 32, 108, 105, 115, 116]⟩

/-! Logical subscripts. -/
def lgX (l : List It) (k : Nat) : List Int := if truthI (l.getD (k % l.length) noI) = 2 then [0] else if truthI (l.getD (k % l.length) noI) = 1 then [(k : Int) + 1] else []
def lgP (l : List It) : Nat → List Int
 | 0 => []
 | k + 1 => lgP l k ++ lgX l k
theorem lgP_miss {l : List It} {k : Nat} (h : truthI (l.getD (k % l.length) noI) = 2) : lgP l (k + 1) = lgP l k ++ [0] := by show lgP l k ++ lgX l k = _; unfold lgX; rw [if_pos h]
theorem lgP_yes {l : List It} {k : Nat} (h : truthI (l.getD (k % l.length) noI) = 1) : lgP l (k + 1) = lgP l k ++ [(k : Int) + 1] := by show lgP l k ++ lgX l k = _; unfold lgX; rw [if_neg (by rw [h]; decide), if_pos h]
theorem lgP_no {l : List It} {k : Nat} (h : truthI (l.getD (k % l.length) noI) = 0) : lgP l (k + 1) = lgP l k := by show lgP l k ++ lgX l k = _; unfold lgX; rw [if_neg (by rw [h]; decide), if_neg (by rw [h]; decide), List.append_nil]
theorem lgP_len (l : List It) : ∀ k, (lgP l k).length ≤ k
 | 0 => Nat.le_refl _
 | k + 1 => by
  show (lgP l k ++ lgX l k).length ≤ k + 1
  have := lgP_len l k
  rw [List.length_append]
  have h1 : (lgX l k).length ≤ 1 := by unfold lgX; split <;> (try split) <;> simp
  omega
def lgM (l : List It) (n : Nat) : Nat := if l.length = 0 then 0 else max n l.length

/-! Number subscripts. -/
def OkN (x : It) : Prop := x.d ≤ 1 ∧ -40 ≤ x.n ∧ x.n ≤ 40
def nmE : List It → ByteArray
 | [] => ⟨#[]⟩
 | x :: l => if 1 < x.d then invB else if x.n < -40 ∨ 40 < x.n then oobB else nmE l
theorem nmE_cons {x : It} {l : List It} (h : OkN x) : nmE (x :: l) = nmE l := by
 obtain ⟨h1, h2, h3⟩ := h
 show (if 1 < x.d then invB else if x.n < -40 ∨ 40 < x.n then oobB else nmE l) = _
 rw [if_neg (by omega), if_neg (by omega)]
theorem nmE_ok : ∀ (l : List It), (∀ i, i < l.length → OkN (l.getD i noI)) → nmE l = ⟨#[]⟩
 | [], _ => rfl
 | x :: l, h => by rw [nmE_cons (show OkN x from h 0 (Nat.succ_pos _))]; exact nmE_ok l (fun i hi => h (i + 1) (Nat.succ_lt_succ hi))
theorem nmE_frac : ∀ (l : List It) (k : Nat), k < l.length → (∀ i, i < k → OkN (l.getD i noI)) → 1 < (l.getD k noI).d → nmE l = invB
 | [], _, h, _, _ => absurd h (Nat.not_lt_zero _)
 | x :: l, 0, _, _, h => by
  have h' : 1 < x.d := h
  show (if 1 < x.d then invB else if x.n < -40 ∨ 40 < x.n then oobB else nmE l) = _
  rw [if_pos h']
 | x :: l, k + 1, hk, ok, h => by rw [nmE_cons (show OkN x from ok 0 (Nat.succ_pos _))]; exact nmE_frac l k (Nat.lt_of_succ_lt_succ hk) (fun i hi => ok (i + 1) (Nat.succ_lt_succ hi)) h
theorem nmE_out : ∀ (l : List It) (k : Nat), k < l.length → (∀ i, i < k → OkN (l.getD i noI)) → ¬ 1 < (l.getD k noI).d → (l.getD k noI).n < -40 ∨ 40 < (l.getD k noI).n → nmE l = oobB
 | [], _, h, _, _, _ => absurd h (Nat.not_lt_zero _)
 | x :: l, 0, _, _, h, g => by
  have h' : ¬ 1 < x.d := h
  have g' : x.n < -40 ∨ 40 < x.n := g
  show (if 1 < x.d then invB else if x.n < -40 ∨ 40 < x.n then oobB else nmE l) = _
  rw [if_neg h', if_pos g']
 | x :: l, k + 1, hk, ok, h, g => by rw [nmE_cons (show OkN x from ok 0 (Nat.succ_pos _))]; exact nmE_out l k (Nat.lt_of_succ_lt_succ hk) (fun i hi => ok (i + 1) (Nat.succ_lt_succ hi)) h g
theorem nmE_all : ∀ (l : List It), nmE l = ⟨#[]⟩ → ∀ i, i < l.length → OkN (l.getD i noI)
 | [], _, _, h => absurd h (Nat.not_lt_zero _)
 | x :: l, e, i, hi => by
  have e' : (if 1 < x.d then invB else if x.n < -40 ∨ 40 < x.n then oobB else nmE l) = ⟨#[]⟩ := e
  by_cases h1 : 1 < x.d
  ·rw [if_pos h1] at e'; exact absurd e' (by decide)
  ·rw [if_neg h1] at e'
   by_cases h2 : x.n < -40 ∨ 40 < x.n
   ·rw [if_pos h2] at e'; exact absurd e' (by decide)
   ·rw [if_neg h2] at e'
    match i, hi with
    | 0, _ => exact ⟨by show x.d ≤ 1; omega, by show -40 ≤ x.n; omega, by show x.n ≤ 40; omega⟩
    | i + 1, hi => exact nmE_all l e' i (Nat.lt_of_succ_lt_succ hi)
def nmX (x : It) : List Int := if x.n ≠ 0 ∨ x.d = 0 then [x.n] else []
/-- The numbers but for the zeros; 0 for a missing one. -/
def nmC (l : List It) : Nat → List Int
 | 0 => []
 | k + 1 => nmC l k ++ nmX (l.getD k noI)
theorem nmC_yes {l : List It} {k : Nat} (h : (l.getD k noI).n ≠ 0 ∨ (l.getD k noI).d = 0) : nmC l (k + 1) = nmC l k ++ [(l.getD k noI).n] := by show nmC l k ++ nmX (l.getD k noI) = _; unfold nmX; rw [if_pos h]
theorem nmC_no {l : List It} {k : Nat} (h : ¬ ((l.getD k noI).n ≠ 0 ∨ (l.getD k noI).d = 0)) : nmC l (k + 1) = nmC l k := by show nmC l k ++ nmX (l.getD k noI) = _; unfold nmX; rw [if_neg h, List.append_nil]
theorem nmC_len (l : List It) : ∀ k, (nmC l k).length ≤ k
 | 0 => Nat.le_refl _
 | k + 1 => by
  show (nmC l k ++ nmX (l.getD k noI)).length ≤ k + 1
  have := nmC_len l k
  rw [List.length_append]
  have h1 : (nmX (l.getD k noI)).length ≤ 1 := by unfold nmX; split <;> simp
  omega
/-- What the first k numbers make: a minus sign, something else. -/
def NegK (l : List It) (k : Nat) : Prop := ∃ i, i < k ∧ (l.getD i noI).n < 0
def PosK (l : List It) (k : Nat) : Prop := ∃ i, i < k ∧ (0 < (l.getD i noI).n ∨ (l.getD i noI).d = 0)
theorem nmC_mem {l : List It} {z : Int} : ∀ {k : Nat}, z ∈ nmC l k ↔ ∃ i, i < k ∧ (l.getD i noI).n = z ∧ ((l.getD i noI).n ≠ 0 ∨ (l.getD i noI).d = 0)
 | 0 => ⟨(fun h => by cases h), fun ⟨i, h, _⟩ => absurd h (Nat.not_lt_zero _)⟩
 | k + 1 => by
  have ih := nmC_mem (l := l) (z := z) (k := k)
  by_cases h : (l.getD k noI).n ≠ 0 ∨ (l.getD k noI).d = 0
  ·rw [nmC_yes h, List.mem_append, ih, List.mem_singleton]
   constructor
   ·rintro (⟨i, h1, h2⟩ | rfl)
    ·exact ⟨i, by omega, h2⟩
    ·exact ⟨k, by omega, rfl, h⟩
   ·rintro ⟨i, h1, h2, h3⟩
    by_cases e : i = k
    ·subst e; exact .inr h2.symm
    ·exact .inl ⟨i, by omega, h2, h3⟩
  ·rw [nmC_no h, ih]
   constructor
   ·rintro ⟨i, h1, h2⟩; exact ⟨i, by omega, h2⟩
   ·rintro ⟨i, h1, h2, h3⟩
    by_cases e : i = k
    ·subst e; exact absurd h3 h
    ·exact ⟨i, by omega, h2, h3⟩
def NegIn (c : List Int) : Prop := ∃ i, i < c.length ∧ c.getD i 0 < 0
def AllNeg (c : List Int) : Prop := ∀ i, i < c.length → c.getD i 0 < 0
theorem getDZ_mem {c : List Int} {i : Nat} (h : i < c.length) : c.getD i 0 ∈ c := by rw [List.getD_eq_getElem?_getD, List.getElem?_eq_getElem h]; exact List.getElem_mem h
theorem memZ_getD {c : List Int} {z : Int} (h : z ∈ c) : ∃ i, i < c.length ∧ c.getD i 0 = z := by
 obtain ⟨i, hi, e⟩ := List.getElem_of_mem h
 exact ⟨i, hi, by rw [List.getD_eq_getElem?_getD, List.getElem?_eq_getElem hi]; exact e⟩
theorem neg_iff {l : List It} {k : Nat} : NegIn (nmC l k) ↔ NegK l k := by
 constructor
 ·rintro ⟨i, hi, h⟩
  obtain ⟨j, h1, h2, _⟩ := nmC_mem.1 (getDZ_mem hi)
  exact ⟨j, h1, by omega⟩
 ·rintro ⟨j, h1, h2⟩
  have hne : (l.getD j noI).n ≠ 0 := by omega
  obtain ⟨i, hi, e⟩ := memZ_getD (nmC_mem.2 ⟨j, h1, rfl, .inl hne⟩)
  exact ⟨i, hi, by omega⟩
theorem all_iff {l : List It} {k : Nat} (h0 : ∀ i, i < k → (l.getD i noI).d = 0 → (l.getD i noI).n = 0) : AllNeg (nmC l k) ↔ ¬ PosK l k := by
 constructor
 ·rintro h ⟨j, h1, h2⟩
  have hc : (l.getD j noI).n ≠ 0 ∨ (l.getD j noI).d = 0 := by rcases h2 with h2 | h2 <;> omega
  obtain ⟨i, hi, e⟩ := memZ_getD (nmC_mem.2 ⟨j, h1, rfl, hc⟩)
  have h3 := h i hi
  rcases h2 with h2 | h2
  ·omega
  ·have := h0 j h1 h2; omega
 ·intro h i hi
  obtain ⟨j, h1, h2, h3⟩ := nmC_mem.1 (getDZ_mem hi)
  have h4 : ¬ (0 < (l.getD j noI).n ∨ (l.getD j noI).d = 0) := fun h5 => h ⟨j, h1, h5⟩
  omega
/-- Is the number among them? -/
def HasZ (c : List Int) (z : Int) : Prop := ∃ i, i < c.length ∧ c.getD i 0 = z
noncomputable def exP (c : List Int) (i : Nat) : Bool := !bB (HasZ c (-((i : Int) + 1)))
/-- The positions up to n but for the excluded ones. -/
noncomputable def exZ (c : List Int) (n : Nat) : List Int := (whN (exP c) n).map (fun (i : Nat) => (i : Int) + 1)
theorem exZ_zero (c : List Int) : exZ c 0 = [] := rfl
theorem exZ_yes {c : List Int} {k : Nat} (h : exP c k = true) : exZ c (k + 1) = exZ c k ++ [(k : Int) + 1] := by unfold exZ; rw [whN_yes h, List.map_append]; rfl
theorem exZ_no {c : List Int} {k : Nat} (h : exP c k = false) : exZ c (k + 1) = exZ c k := by unfold exZ; rw [whN_no h]
theorem exZ_len (c : List Int) (k : Nat) : (exZ c k).length ≤ k := by unfold exZ; rw [List.length_map]; exact whN_len _ _
noncomputable def nmZ (c : List Int) (n : Nat) : List Int := bif bB (NegIn c) then (bif bB (AllNeg c) then exZ c n else []) else c
noncomputable def nmR (c : List Int) : ByteArray := bif bB (NegIn c) then (bif bB (AllNeg c) then ⟨#[]⟩ else invB) else ⟨#[]⟩
theorem nm_plain {c : List Int} (n : Nat) (h : ¬ NegIn c) : nmZ c n = c ∧ nmR c = ⟨#[]⟩ := by unfold nmZ nmR; rw [bB_no h]; exact ⟨rfl, rfl⟩
theorem nm_mixed {c : List Int} (n : Nat) (h : NegIn c) (h2 : ¬ AllNeg c) : nmZ c n = [] ∧ nmR c = invB := by unfold nmZ nmR; rw [bB_yes h, bB_no h2]; exact ⟨rfl, rfl⟩
theorem nm_minus {c : List Int} (n : Nat) (h : NegIn c) (h2 : AllNeg c) : nmZ c n = exZ c n ∧ nmR c = ⟨#[]⟩ := by unfold nmZ nmR; rw [bB_yes h, bB_yes h2]; exact ⟨rfl, rfl⟩
noncomputable def nuZ (l : List It) (n : Nat) : List Int := bif bB (nmE l = ⟨#[]⟩) then nmZ (nmC l l.length) n else []
noncomputable def nuS (l : List It) : ByteArray := bif bB (nmE l = ⟨#[]⟩) then nmR (nmC l l.length) else nmE l
theorem nu_bad {l : List It} (n : Nat) (h : ¬ nmE l = ⟨#[]⟩) : nuZ l n = [] ∧ nuS l = nmE l := by unfold nuZ nuS; rw [bB_no h]; exact ⟨rfl, rfl⟩
theorem nu_ok {l : List It} (n : Nat) (h : nmE l = ⟨#[]⟩) : nuZ l n = nmZ (nmC l l.length) n ∧ nuS l = nmR (nmC l l.length) := by unfold nuZ nuS; rw [bB_yes h]; exact ⟨rfl, rfl⟩

/-! Texts as subscripts. -/
def findL (K : List ByteArray) (s : ByteArray) : Int := findF s (fun i => K.getD i ⟨#[]⟩) K.length 0
theorem findL_le (K : List ByteArray) (s : ByteArray) : -1 ≤ findL K s := (findF_le s _ _ 0).1
theorem findL_lt (K : List ByteArray) (s : ByteArray) : findL K s < K.length := by
 unfold findL
 rcases findF_first s (fun i => K.getD i ⟨#[]⟩) K.length 0 with ⟨e, _⟩ | ⟨j, e, _, h2, _⟩ <;> rw [e] <;> omega
theorem findL_in {K : List ByteArray} {s : ByteArray} : 0 ≤ findL K s ↔ ∃ i, i < K.length ∧ K.getD i ⟨#[]⟩ = s := by
 unfold findL
 rcases findF_first s (fun i => K.getD i ⟨#[]⟩) K.length 0 with ⟨e, hn⟩ | ⟨j, e, _, h2, h3, _⟩
 ·rw [e]
  exact ⟨fun h => by omega, fun ⟨i, hi, he⟩ => absurd (by rw [he]) (hn i (Nat.zero_le _) (by omega))⟩
 ·rw [e]
  exact ⟨fun _ => ⟨j, by omega, toList_inj h3⟩, fun _ => by omega⟩
/-- The place of a text that was just put behind the others. -/
theorem findL_new {K : List ByteArray} {s : ByteArray} (h : ¬ 0 ≤ findL K s) : findL (K ++ [s]) s = K.length := by
 have hn : ∀ i, i < K.length → K.getD i ⟨#[]⟩ ≠ s := fun i hi e => h (findL_in.2 ⟨i, hi, e⟩)
 have g : ∀ i, i < K.length → (K ++ [s]).getD i ⟨#[]⟩ = K.getD i ⟨#[]⟩ := fun i hi => by simp [List.getD_eq_getElem?_getD, List.getElem?_append_left hi]
 have ge : (K ++ [s]).getD K.length ⟨#[]⟩ = s := by simp [List.getD_eq_getElem?_getD]
 unfold findL
 rcases findF_first s (fun i => (K ++ [s]).getD i ⟨#[]⟩) (K ++ [s]).length 0 with ⟨e, hn'⟩ | ⟨j, e, _, h2, h3, h4⟩
 ·exact absurd (by rw [ge]) (hn' K.length (Nat.zero_le _) (by simp))
 ·rw [e]
  simp only [List.length_append, List.length_cons, List.length_nil] at h2
  have h3' := toList_inj h3
  have hj : ¬ j < K.length := fun hj => by rw [g j hj] at h3'; exact hn j hj h3'
  have : j = K.length := by omega
  rw [this]
noncomputable def txW (K : List ByteArray) (x : It) : List ByteArray := bif bB (x = noI ∨ 0 ≤ findL K x.t) then K else K ++ [x.t]
noncomputable def txK (K : List ByteArray) (l : List It) : Nat → List ByteArray
 | 0 => K
 | k + 1 => txW (txK K l k) (l.getD k noI)
noncomputable def txZ (K : List ByteArray) (x : It) : Int := bif bB (x = noI) then 0 else findL K x.t + 1
noncomputable def txP (K : List ByteArray) (l : List It) : Nat → List Int
 | 0 => []
 | k + 1 => txP K l k ++ [txZ (txK K l (k + 1)) (l.getD k noI)]
theorem txK_miss {K : List ByteArray} {l : List It} {k : Nat} (h : l.getD k noI = noI) : txK K l (k + 1) = txK K l k := by show txW (txK K l k) (l.getD k noI) = _; unfold txW; rw [bB_yes (.inl h)]; rfl
theorem txK_old {K : List ByteArray} {l : List It} {k : Nat} (h : 0 ≤ findL (txK K l k) (l.getD k noI).t) : txK K l (k + 1) = txK K l k := by show txW (txK K l k) (l.getD k noI) = _; unfold txW; rw [bB_yes (.inr h)]; rfl
theorem txK_new {K : List ByteArray} {l : List It} {k : Nat} (h0 : ¬ l.getD k noI = noI) (h : ¬ 0 ≤ findL (txK K l k) (l.getD k noI).t) : txK K l (k + 1) = txK K l k ++ [(l.getD k noI).t] := by show txW (txK K l k) (l.getD k noI) = _; unfold txW; rw [bB_no (fun e => e.elim h0 h)]; rfl
theorem txP_miss {K : List ByteArray} {l : List It} {k : Nat} (h : l.getD k noI = noI) : txP K l (k + 1) = txP K l k ++ [0] := by show txP K l k ++ [txZ _ (l.getD k noI)] = _; unfold txZ; rw [bB_yes h]; rfl
theorem txP_old {K : List ByteArray} {l : List It} {k : Nat} (h0 : ¬ l.getD k noI = noI) (h : 0 ≤ findL (txK K l k) (l.getD k noI).t) : txP K l (k + 1) = txP K l k ++ [findL (txK K l k) (l.getD k noI).t + 1] := by show txP K l k ++ [txZ _ (l.getD k noI)] = _; unfold txZ; rw [bB_no h0, txK_old h]; rfl
theorem txP_new {K : List ByteArray} {l : List It} {k : Nat} (h0 : ¬ l.getD k noI = noI) (h : ¬ 0 ≤ findL (txK K l k) (l.getD k noI).t) : txP K l (k + 1) = txP K l k ++ [((txK K l k).length : Int) + 1] := by show txP K l k ++ [txZ _ (l.getD k noI)] = _; unfold txZ; rw [bB_no h0, txK_new h0 h, findL_new h]; rfl
theorem txK_len (K : List ByteArray) (l : List It) : ∀ k, (txK K l k).length ≤ K.length + k
 | 0 => Nat.le_refl _
 | k + 1 => by
  have := txK_len K l k
  show (txW (txK K l k) (l.getD k noI)).length ≤ _
  unfold txW
  cases bB (l.getD k noI = noI ∨ 0 ≤ findL (txK K l k) (l.getD k noI).t) with
  | true => show (txK K l k).length ≤ _; omega
  | false => show (txK K l k ++ [(l.getD k noI).t]).length ≤ _; rw [List.length_append, List.length_singleton]; omega
theorem txP_len (K : List ByteArray) (l : List It) : ∀ k, (txP K l k).length = k
 | 0 => rfl
 | k + 1 => by show (txP K l k ++ [_]).length = k + 1; rw [List.length_append, txP_len K l k]; rfl
def OkT (x : It) : Prop := x = noI ∨ x.t.size ≠ 0
def AllT (l : List It) : Prop := ∀ i, i < l.length → OkT (l.getD i noI)
/-- The names, or empty ones. -/
def padL (names : List ByteArray) (n : Nat) : List ByteArray := names ++ List.replicate (n - names.length) ⟨#[]⟩
theorem padL_len (names : List ByteArray) (n : Nat) (h : names.length ≤ n) : (padL names n).length = n := by unfold padL; rw [List.length_append, List.length_replicate]; omega
noncomputable def teZ (K : List ByteArray) (l : List It) : List Int := bif bB (AllT l) then txP K l l.length else []
noncomputable def teS (l : List It) : ByteArray := bif bB (AllT l) then ⟨#[]⟩ else invB
theorem te_ok {K : List ByteArray} {l : List It} (h : AllT l) : teZ K l = txP K l l.length ∧ teS l = ⟨#[]⟩ := by unfold teZ teS; rw [bB_yes h]; exact ⟨rfl, rfl⟩
theorem te_bad {K : List ByteArray} {l : List It} (h : ¬ AllT l) : teZ K l = [] ∧ teS l = invB := by unfold teZ teS; rw [bB_no h]; exact ⟨rfl, rfl⟩

/-! The whole. -/
def NmOk (n : Int) (names : List ByteArray) : Prop := 0 ≤ n ∧ n ≤ 40 ∧ (names.length = 0 ∨ (names.length : Int) = n)
noncomputable def rkZ (k : Int) (items : List It) (names : List ByteArray) (n : Nat) : List Int := if k = 1 then lgP items (lgM items n) else if k = 2 then nuZ items n else if k = 3 then teZ (padL names n) items else []
noncomputable def rkS (k : Int) (items : List It) : ByteArray := if k = 2 then nuS items else if k = 3 then teS items else if 4 ≤ k then invB else ⟨#[]⟩
noncomputable def rsZ (n : Int) (names : List ByteArray) (s : Vec) : List Int := bif bB (ValidV s ∧ NmOk n names) then (match s with | .mk k items _ _ _ _ _ _ => rkZ k items names n.toNat) else []
noncomputable def rsS (n : Int) (names : List ByteArray) (s : Vec) : ByteArray := bif bB (ValidV s) then (bif bB (NmOk n names) then (match s with | .mk k items _ _ _ _ _ _ => rkS k items) else innB) else badB
theorem rs_bad {n : Int} {names : List ByteArray} {s : Vec} (h : ¬ ValidV s) : rsZ n names s = [] ∧ rsS n names s = badB := by unfold rsZ rsS; rw [bB_no h, bB_no (fun e => h e.1)]; exact ⟨rfl, rfl⟩
theorem rs_names {n : Int} {names : List ByteArray} {s : Vec} (h : ValidV s) (h2 : ¬ NmOk n names) : rsZ n names s = [] ∧ rsS n names s = innB := by unfold rsZ rsS; rw [bB_yes h, bB_no h2, bB_no (fun e => h2 e.2)]; exact ⟨rfl, rfl⟩
theorem rs_yes {n : Int} {names : List ByteArray} {k : Int} {items : List It} {parts : List Vec} {nm cls lev : List ByteArray} {code env : Int} (h : ValidV (.mk k items parts nm cls lev code env)) (h2 : NmOk n names) : rsZ n names (.mk k items parts nm cls lev code env) = rkZ k items names n.toNat ∧ rsS n names (.mk k items parts nm cls lev code env) = rkS k items := by
 unfold rsZ rsS; rw [bB_yes h, bB_yes h2, bB_yes ⟨h, h2⟩]; exact ⟨rfl, rfl⟩
theorem rk_lgc {items : List It} {names : List ByteArray} {n : Nat} : rkZ 1 items names n = lgP items (lgM items n) ∧ rkS 1 items = ⟨#[]⟩ := ⟨rfl, rfl⟩
theorem rk_num {items : List It} {names : List ByteArray} {n : Nat} : rkZ 2 items names n = nuZ items n ∧ rkS 2 items = nuS items := ⟨rfl, rfl⟩
theorem rk_txt {items : List It} {names : List ByteArray} {n : Nat} : rkZ 3 items names n = teZ (padL names n) items ∧ rkS 3 items = teS items := ⟨rfl, rfl⟩
theorem rk_null {items : List It} {names : List ByteArray} {n : Nat} : rkZ 0 items names n = [] ∧ rkS 0 items = ⟨#[]⟩ := ⟨rfl, rfl⟩
theorem rk_list {k : Int} (h : 4 ≤ k) {items : List It} {names : List ByteArray} {n : Nat} : rkZ k items names n = [] ∧ rkS k items = invB := by
 unfold rkZ rkS
 rw [if_neg (by omega), if_neg (by omega), if_neg (by omega), if_neg (by omega), if_neg (by omega), if_pos h]
 exact ⟨rfl, rfl⟩
end Go.Proofs.YteoalkjngkcheaaGreat

/- What is owned at a depth is owned at every greater one. -/
namespace Go.Proofs.YteoalkjngkcheaaGreat
open Go.RowKit
set_option maxRecDepth 100000
set_option linter.unusedVariables false

/-! What is owned at a depth is owned at every greater one. -/
theorem OwnVec.more : ∀ {w : World} (d : Nat) (v : Vec) (y : Value) (F : List Nat), OwnVec w d v y F → OwnVec w (d + 1) v y F
 | _, 0, _, _, _, h => by unfold OwnVec at h; exact h.elim
 | w, d + 1, .mk k items parts names cls levels code env, y, F, h => by
  unfold OwnVec at h ⊢
  obtain ⟨ai, ci, ap, cp, an, cn, ac, cc, al, cl, Fi, Fp, Fn, Fc, Fl, e, eF, hc, hI, hN, hC, hL, hP⟩ := h
  refine ⟨ai, ci, ap, cp, an, cn, ac, cc, al, cl, Fi, Fp, Fn, Fc, Fl, e, eF, hc, hI, hN, hC, hL, hP.imp id ?_⟩
  rintro ⟨b, C, Fs, e1, e2, e3, hb, hs, hp⟩
  refine ⟨b, C, Fs, e1, e2, e3, hb, hs, fun i hi => ?_⟩
  obtain ⟨val, ho, h8⟩ := hp i hi
  exact ⟨val, OwnVec.more d _ _ _ ho, h8⟩
theorem Own.le {d d' : Nat} (h : d ≤ d') {v : Vec} {y : Value} {lo hi : Nat} {w : World} (ho : Own d v y lo hi w) : Own d' v y lo hi w := by
 induction h with
 | refl => exact ho
 | step _ ih =>
  obtain ⟨F, q1, q2, q3⟩ := ih.out
  exact ⟨F, OwnVec.more _ _ _ _ q1, q2, q3⟩
end Go.Proofs.YteoalkjngkcheaaGreat

/- DuplicatedIn on both sides. -/
namespace Go.Proofs.YteoalkjngkcheaaGreat
open Go.RowKit
set_option maxRecDepth 100000
set_option linter.unusedVariables false

noncomputable def dupZ (l : List It) (i : Nat) : Int := match bB (DupAt l i) with | true => 1 | false => 0
/-- Which elements are duplicates. -/
noncomputable def dupV (v : Vec) : Vec := match bB (atmS v = ⟨#[]⟩) with | true => mkN 1 (itF (fun i => logI (dupZ (itemsV v) i)) (itemsV v).length) [] | false => noV
end Go.Proofs.YteoalkjngkcheaaGreat

/- UniqueOf: data, the program. -/
namespace Go.Proofs.YteoalkjngkcheaaGreat
open Go.RowKit
set_option maxRecDepth 100000
set_option linter.unusedVariables false

/-- Which elements have no equal one ahead. -/
noncomputable def uqP (l : List It) (i : Nat) : Bool := !(bB (DupAt l i))
noncomputable def uqI (l : List It) : List Nat := whN (uqP l) l.length
noncomputable def uqV (v : Vec) : Vec := match bB (atmS v = ⟨#[]⟩), v with
 | true, .mk kk items _ _ cls levels _ _ => .mk kk (pkL noI items (uqI items)) [] [] (kpC levels cls) levels 0 0
 | false, _ => noV
/-- A vector of the zero value, at any depth. -/
theorem own_zeroD (d lo hi : Nat) (w : World) : Own (d + 1) noV (.agg #[.int .i64 0, .slice none 0 0, .slice none 0 0, .slice none 0 0, .slice none 0 0, .slice none 0 0, .int .i64 0, .int .i64 0]) lo hi w := by
 refine ⟨[], ?_, List.nodup_nil, (fun _ h => by cases h)⟩
 show OwnVec w (d + 1) (.mk 0 [] [] [] [] [] 0 0) _ []
 unfold OwnVec
 exact ⟨none, 0, none, 0, none, 0, none, 0, none, 0, [], [], [], [], [], rfl, rfl, ⟨Nat.le_refl _, Nat.le_refl _, Nat.le_refl _, Nat.le_refl _, Nat.le_refl _⟩, .inl ⟨rfl, rfl⟩, .inl ⟨rfl, rfl⟩, .inl ⟨rfl, rfl⟩, .inl ⟨rfl, rfl⟩, .inl ⟨rfl, rfl⟩⟩
theorem zeroSD (d : Nat) (s : ByteArray) (w w' : World) (hb : Below w.heap.size w w') : ResVS (d + 1) noV s w (.returned (.tuple #[.agg #[.int .i64 0, .slice none 0 0, .slice none 0 0, .slice none 0 0, .slice none 0 0, .slice none 0 0, .int .i64 0, .int .i64 0], .string s])) w' := ⟨_, rfl, own_zeroD _ _ _ _, hb⟩
theorem IntsAt.congr {B : Nat} {w : World} {a : Option Addr} {n : Nat} {f g : Nat → Int} (h : IntsAt B w a n f) (e : ∀ i, i < n → f i = g i) : IntsAt B w a n g := fun i hi => by rw [← e i hi]; exact h i hi
end Go.Proofs.YteoalkjngkcheaaGreat

/- ElementOf as data. -/
namespace Go.Proofs.YteoalkjngkcheaaGreat
open Go.RowKit
set_option maxRecDepth 100000
set_option linter.unusedVariables false

def namV (v : Vec) : List ByteArray := match v with | .mk _ _ _ names _ _ _ _ => names
/-- What a subscript selects in a vector of elements. -/
noncomputable def rvZ (v s : Vec) : List Int := bif bB (ValidV v ∧ ¬ kindV v = 5) then rsZ (lengthV v : Int) (namV v) s else []
noncomputable def rvS (v s : Vec) : ByteArray := bif bB (ValidV v) then (bif bB (kindV v = 5) then nelB else rsS (lengthV v : Int) (namV v) s) else badB
theorem rv_bad {v s : Vec} (h : ¬ ValidV v) : rvZ v s = [] ∧ rvS v s = badB := by unfold rvZ rvS; rw [bB_no h, bB_no (fun e => h e.1)]; exact ⟨rfl, rfl⟩
theorem rv_fun {v s : Vec} (h : ValidV v) (h5 : kindV v = 5) : rvZ v s = [] ∧ rvS v s = nelB := by unfold rvZ rvS; rw [bB_yes h, bB_yes h5, bB_no (fun e => e.2 h5)]; exact ⟨rfl, rfl⟩
theorem rv_yes {v s : Vec} (h : ValidV v) (h5 : ¬ kindV v = 5) : rvZ v s = rsZ (lengthV v : Int) (namV v) s ∧ rvS v s = rsS (lengthV v : Int) (namV v) s := by unfold rvZ rvS; rw [bB_yes h, bB_no h5, bB_yes ⟨h, h5⟩]; exact ⟨rfl, rfl⟩
/-- A problem leaves no positions; no problem: a vector of elements, and a valid subscript. -/
theorem rv_ok {v s : Vec} (h : rvS v s = ⟨#[]⟩) : ValidV v ∧ ¬ kindV v = 5 := by
 by_cases hv : ValidV v
 ·by_cases h5 : kindV v = 5
  ·rw [(rv_fun (s := s) hv h5).2] at h; exact absurd h (by decide)
  ·exact ⟨hv, h5⟩
 ·rw [(rv_bad (s := s) hv).2] at h; exact absurd h (by decide)
/-- Exactly one position, which is one of the vector's. -/
def OneP (v s : Vec) : Prop := lengthV s = 1 ∧ (rvZ v s).length = 1 ∧ 1 ≤ (rvZ v s).getD 0 0 ∧ (rvZ v s).getD 0 0 ≤ (lengthV v : Int)
/-- A vector's element at an index, without its name. -/
noncomputable def elmV (v : Vec) (i : Nat) : Vec := match v with
 | .mk kk items parts names cls levels _ _ => bif bB (kk = 4) then parts.getD i noV else .mk kk (pkL noI items [i]) (pkL noV parts [i]) [] (kpC levels cls) levels 0 0
noncomputable def elS (v s : Vec) : ByteArray := bif bB (rvS v s = ⟨#[]⟩) then (bif bB (OneP v s) then ⟨#[]⟩ else oobB) else rvS v s
noncomputable def elV (v s : Vec) : Vec := bif bB (rvS v s = ⟨#[]⟩ ∧ OneP v s) then elmV v ((rvZ v s).getD 0 0 - 1).toNat else noV
end Go.Proofs.YteoalkjngkcheaaGreat

/- The reference's last look at a result: l4Fit. -/
namespace Go.Proofs.YteoalkjngkcheaaGreat
set_option maxRecDepth 100000
open Go.RowKit
set_option linter.unusedVariables false
set_option maxHeartbeats 4000000 in
theorem specFit (d : Nat) (v : Vec) (val : Value) (lo hi : Nat) (w : World) (hv : VecAt lo hi w d v val) (hhi : hi ≤ w.heap.size) (hsm : Small d v) :
  Calls Tryz.prog 18 #[val] w fun e w' => Below w.heap.size w w' ∧ ((ValidV v ∧ e = .returned (.tuple #[val, .string ⟨#[]⟩])) ∨ (¬ ValidV v ∧ e = .returned (.tuple #[.agg #[.int .i64 0, .slice none 0 0, .slice none 0 0, .slice none 0 0, .slice none 0 0, .slice none 0 0, .int .i64 0, .int .i64 0], .string bigB]))) := by
 have C1 := hd9 (fun (w1 : World) (hb : Below w.heap.size w w1) => specIsVector d v val lo hi w1 (hv.below hb hhi) (Nat.le_trans hhi hb.size) hsm)
 obtain ⟨VV, hVV⟩ : ∃ V, v = V := ⟨_, rfl⟩
 rw [hVV] at C1 ⊢
 obtain ⟨kk, items, parts, names, cls, levels, code, env⟩ := v
 obtain ⟨d', ai, ci, ap, cp, an, cn, ac, cc, al, cl, ed, rfl, hI, hN, hC, hL, hP⟩ := vecAt_open hv
 clear hv hI hN hC hL hP hsm ed hVV
 go_enter Tryz.func18, Tryz.ntmps18
 go_wp2_with fail
 obtain ⟨w1, hw1⟩ : ∃ W, (w.alloc (.cells #[.int .i64 kk, .slice ai items.length ci, .slice ap parts.length cp, .slice an names.length cn, .slice ac cls.length cc, .slice al levels.length cl, .int .i64 code, .int .i64 env] 31)).alloc (.cells #[.int .i64 0, .slice none 0 0, .slice none 0 0, .slice none 0 0, .slice none 0 0, .slice none 0 0, .int .i64 0, .int .i64 0] 31) = W := ⟨_, rfl⟩
 have hsz : (w.alloc (.cells #[.int .i64 kk, .slice ai items.length ci, .slice ap parts.length cp, .slice an names.length cn, .slice ac cls.length cc, .slice al levels.length cl, .int .i64 code, .int .i64 env] 31)).heap.size = w.heap.size + 1 := by simp
 have B1 := hd9 (show Below w.heap.size w w1 from hw1 ▸ (below1 w _).alloc (by simp) _)
 have KA := hd9 (show w1.heap[w.heap.size]? = some (.cells #[.int .i64 kk, .slice ai items.length ci, .slice ap parts.length cp, .slice an names.length cn, .slice ac cls.length cc, .slice al levels.length cl, .int .i64 code, .int .i64 env] 31 (0, 0)) from hw1 ▸ blk_old (blk_new w _ rfl))
 have KR := hd9 (show w1.heap[w.heap.size + 1]? = some (.cells #[.int .i64 0, .slice none 0 0, .slice none 0 0, .slice none 0 0, .slice none 0 0, .slice none 0 0, .int .i64 0, .int .i64 0] 31 (0, 0)) from hw1 ▸ hsz ▸ blk_new (w.alloc (.cells #[.int .i64 kk, .slice ai items.length ci, .slice ap parts.length cp, .slice an names.length cn, .slice ac cls.length cc, .slice al levels.length cl, .int .i64 code, .int .i64 env] 31)) (.cells #[.int .i64 0, .slice none 0 0, .slice none 0 0, .slice none 0 0, .slice none 0 0, .slice none 0 0, .int .i64 0, .int .i64 0] 31) rfl)
 rw [hw1]
 clear hw1 hsz
 with_reducible refine (C1.out _ B1.out).mono ?_
 rintro e w2 ⟨rfl, b⟩
 have B2 := hd9 (below_then B1.out b)
 have KA2 := hd9 (blk_below b KA.out)
 have KR2 := hd9 (blk_below b KR.out)
 clear b
 obtain ⟨k0, k1, k2, k3, k4, k5, k6, k7⟩ := vec8 KA2.out
 obtain ⟨z0, z1, z2, z3, z4, z5, z6, z7⟩ := vec8 KR2.out
 obtain ⟨f0, f1, f2, f3, f4, f5, f6, f7⟩ := free8 KR2.out
 by_cases q : ValidV VV
 ·rw [bB_yes q]
  have Q := hd9 q
  clear q
  go_wp2
  exact vec_endS rfl rfl rfl rfl KR2.out ⟨put8_below B2.out (Nat.le_succ _), .inl ⟨Q.out, rfl⟩⟩
 ·rw [bB_no q]
  have Q := hd9 q
  clear q
  go_wp2
  exact vec_endS rfl rfl rfl rfl KR2.out ⟨put8_below B2.out (Nat.le_succ _), .inr ⟨Q.out, rfl⟩⟩
end Go.Proofs.YteoalkjngkcheaaGreat

/- SubsetOf as data. -/
namespace Go.Proofs.YteoalkjngkcheaaGreat
open Go.RowKit
set_option maxRecDepth 100000
set_option linter.unusedVariables false

/-- The text for a missing name. -/
def naB : ByteArray := ⟨#[60, 78, 65, 62]⟩
def misN (names : List ByteArray) : List ByteArray := match names with | [] => [] | _ :: _ => names ++ [naB]
theorem misN_some {names : List ByteArray} (h : names.length ≠ 0) : misN names = names ++ [naB] := by
 cases names with
 | nil => exact absurd rfl h
 | cons x l => rfl
theorem misN_nil {names : List ByteArray} (h : names.length = 0) : misN names = [] := by rw [List.eq_nil_of_length_eq_zero h]; rfl
/-- Elements and parts with a missing one behind them. -/
noncomputable def misI (kk : Int) (items : List It) : List It := bif bB (kk = 0 ∨ kk = 4) then items else items ++ [noI]
noncomputable def misP (kk : Int) (parts : List Vec) : List Vec := bif bB (kk = 4) then parts ++ [noV] else parts
theorem misI_no {kk : Int} {items : List It} (h : kk = 0 ∨ kk = 4) : misI kk items = items := by unfold misI; rw [bB_yes h]; rfl
theorem misI_yes {kk : Int} {items : List It} (h : ¬ (kk = 0 ∨ kk = 4)) : misI kk items = items ++ [noI] := by unfold misI; rw [bB_no h]; rfl
theorem misP_yes {kk : Int} {parts : List Vec} (h : kk = 4) : misP kk parts = parts ++ [noV] := by unfold misP; rw [bB_yes h]; rfl
theorem misP_no {kk : Int} {parts : List Vec} (h : ¬ kk = 4) : misP kk parts = parts := by unfold misP; rw [bB_no h]; rfl
/-- The index for a position: that of the missing element, where the vector has none there. -/
def sbX (n : Nat) (z : Int) : Nat := if 1 ≤ z ∧ z ≤ (n : Int) then (z - 1).toNat else n
def sbI (n : Nat) (Z : List Int) : List Nat := Z.map (sbX n)
theorem sbX_in {n : Nat} {z : Int} (h : 1 ≤ z ∧ z ≤ (n : Int)) : sbX n z = (z - 1).toNat := by unfold sbX; rw [if_pos h]
theorem sbX_out {n : Nat} {z : Int} (h : ¬ (1 ≤ z ∧ z ≤ (n : Int))) : sbX n z = n := by unfold sbX; rw [if_neg h]
theorem sbX_le (n : Nat) (z : Int) : sbX n z ≤ n := by unfold sbX; split <;> omega
theorem sbI_len (n : Nat) (Z : List Int) : (sbI n Z).length = Z.length := by unfold sbI; simp
theorem sbI_at {n : Nat} {Z : List Int} {k : Nat} (hk : k < Z.length) : (sbI n Z).getD k 0 = sbX n (Z.getD k 0) := by
 unfold sbI
 rw [List.getD_eq_getElem?_getD, List.getD_eq_getElem?_getD, List.getElem?_map, List.getElem?_eq_getElem hk]; rfl
/-- The selected elements; before their number is looked at. -/
noncomputable def sbR (v s : Vec) : Vec := match v with | .mk kk items parts names cls levels _ _ => selV kk (misI kk items) (misP kk parts) (misN names) cls levels (sbI (items.length + parts.length) (rvZ v s))
noncomputable def sbV (v s : Vec) : Vec := bif bB (rvS v s = ⟨#[]⟩ ∧ ValidV (sbR v s)) then sbR v s else noV
noncomputable def sbS (v s : Vec) : ByteArray := bif bB (rvS v s = ⟨#[]⟩) then (bif bB (ValidV (sbR v s)) then ⟨#[]⟩ else bigB) else rvS v s
theorem sb_bad {v s : Vec} (h : ¬ rvS v s = ⟨#[]⟩) : sbV v s = noV ∧ sbS v s = rvS v s := by unfold sbV sbS; rw [bB_no h, bB_no (fun e => h e.1)]; exact ⟨rfl, rfl⟩
theorem sb_big {v s : Vec} (h : rvS v s = ⟨#[]⟩) (h1 : ¬ ValidV (sbR v s)) : sbV v s = noV ∧ sbS v s = bigB := by unfold sbV sbS; rw [bB_yes h, bB_no h1, bB_no (fun e => h1 e.2)]; exact ⟨rfl, rfl⟩
theorem sb_yes {v s : Vec} (h : rvS v s = ⟨#[]⟩) (h1 : ValidV (sbR v s)) : sbV v s = sbR v s ∧ sbS v s = ⟨#[]⟩ := by unfold sbV sbS; rw [bB_yes h, bB_yes h1, bB_yes ⟨h, h1⟩]; exact ⟨rfl, rfl⟩
theorem lgP_bd (l : List It) : ∀ k, ∀ z ∈ lgP l k, 0 ≤ z ∧ z ≤ (k : Int)
 | 0, z, h => by cases h
 | k + 1, z, h => by
  rcases List.mem_append.1 (show z ∈ lgP l k ++ lgX l k from h) with h | h
  ·have := lgP_bd l k z h; omega
  ·unfold lgX at h
   split at h
   ·obtain rfl := List.mem_singleton.1 h; omega
   ·split at h
    ·obtain rfl := List.mem_singleton.1 h; omega
    ·cases h
theorem exZ_bd (c : List Int) : ∀ k, ∀ z ∈ exZ c k, 0 ≤ z ∧ z ≤ (k : Int)
 | 0, z, h => by rw [exZ_zero] at h; cases h
 | k + 1, z, h => by
  cases e : exP c k with
  | true =>
   rw [exZ_yes e] at h
   rcases List.mem_append.1 h with h | h
   ·have := exZ_bd c k z h; omega
   ·obtain rfl := List.mem_singleton.1 h; omega
  | false => rw [exZ_no e] at h; have := exZ_bd c k z h; omega
theorem txP_bd (K : List ByteArray) (l : List It) : ∀ k, ∀ z ∈ txP K l k, 0 ≤ z ∧ z ≤ ((K.length + k : Nat) : Int) + 1
 | 0, z, h => by cases h
 | k + 1, z, h => by
  rcases List.mem_append.1 (show z ∈ txP K l k ++ [txZ (txK K l (k + 1)) (l.getD k noI)] from h) with h | h
  ·have := txP_bd K l k z h; omega
  ·obtain rfl := List.mem_singleton.1 h
   unfold txZ
   have h1 := findL_le (txK K l (k + 1)) (l.getD k noI).t
   have h2 := findL_lt (txK K l (k + 1)) (l.getD k noI).t
   have h3 := txK_len K l (k + 1)
   cases bB (l.getD k noI = noI) with
   | true => exact ⟨Int.le_refl _, by show (0 : Int) ≤ _; omega⟩
   | false => exact ⟨by show 0 ≤ findL _ _ + 1; omega, by show findL _ _ + 1 ≤ _; omega⟩
/-- Few positions, all of them small. -/
theorem rs_bd (n : Int) (nms : List ByteArray) (v : Vec) : (rsZ n nms v).length ≤ 80 ∧ ∀ z ∈ rsZ n nms v, -100 ≤ z ∧ z ≤ 100 := by
 have nil : ([] : List Int).length ≤ 80 ∧ ∀ z ∈ ([] : List Int), -100 ≤ z ∧ z ≤ 100 := ⟨Nat.zero_le _, fun _ h => by cases h⟩
 by_cases h : ValidV v
 ·by_cases h2 : NmOk n nms
  ·obtain ⟨k, items, parts, names, cls, levels, code, env⟩ := v
   rw [(rs_yes h h2).1]
   have hf : FlatOk k items parts.length names cls levels code env := h.1.flat
   have hn : n.toNat ≤ 40 := by obtain ⟨_, h3, _⟩ := h2; omega
   have hlen := hf.h_len
   by_cases h4 : 4 ≤ k
   ·rw [(rk_list h4).1]; exact nil
   ·unfold lenV at hlen
    rw [if_neg (by omega)] at hlen
    have hk := hf.h_kind
    rcases (show k = 0 ∨ k = 1 ∨ k = 2 ∨ k = 3 by omega) with rfl | rfl | rfl | rfl
    ·rw [rk_null.1]; exact nil
    ·rw [rk_lgc.1]
     have h5 := lgP_len items (lgM items n.toNat)
     have h6 : lgM items n.toNat ≤ 40 := by unfold lgM; split <;> omega
     exact ⟨by omega, fun z hz => by have := lgP_bd items _ z hz; omega⟩
    ·rw [rk_num.1]
     have hc := nmC_len items items.length
     by_cases he : nmE items = ⟨#[]⟩
     ·rw [(nu_ok n.toNat he).1]
      by_cases g1 : NegIn (nmC items items.length)
      ·by_cases g2 : AllNeg (nmC items items.length)
       ·rw [(nm_minus n.toNat g1 g2).1]
        have h5 := exZ_len (nmC items items.length) n.toNat
        exact ⟨by omega, fun z hz => by have := exZ_bd _ _ z hz; omega⟩
       ·rw [(nm_mixed n.toNat g1 g2).1]; exact nil
      ·rw [(nm_plain n.toNat g1).1]
       refine ⟨by omega, fun z hz => ?_⟩
       obtain ⟨i, h5, h6, _⟩ := nmC_mem.1 hz
       obtain ⟨_, h7, h8⟩ := nmE_all items he i h5
       omega
     ·rw [(nu_bad n.toNat he).1]; exact nil
    ·rw [rk_txt.1]
     by_cases g : AllT items
     ·rw [(te_ok g).1]
      have h5 : (padL nms n.toNat).length ≤ 40 := by obtain ⟨_, _, h3⟩ := h2; rw [padL_len nms n.toNat (by omega)]; exact hn
      exact ⟨by rw [txP_len]; omega, fun z hz => by have := txP_bd _ _ _ z hz; omega⟩
     ·rw [(te_bad g).1]; exact nil
  ·rw [(rs_names h h2).1]; exact nil
 ·rw [(rs_bad h).1]; exact nil
theorem rv_bd (v s : Vec) : (rvZ v s).length ≤ 80 ∧ ∀ z ∈ rvZ v s, -100 ≤ z ∧ z ≤ 100 := by
 by_cases h : ValidV v
 ·by_cases h5 : kindV v = 5
  ·rw [(rv_fun h h5).1]; exact ⟨Nat.zero_le _, fun _ h => by cases h⟩
  ·rw [(rv_yes h h5).1]; exact rs_bd _ _ _
 ·rw [(rv_bad h).1]; exact ⟨Nat.zero_le _, fun _ h => by cases h⟩
/-- Selected elements are no larger than those they are taken from. -/
theorem small_selV {d : Nat} {kk : Int} {items : List It} {parts : List Vec} {names cls levels : List ByteArray} {code env : Int} {idx : List Nat} (h : Small (d + 1 + 1) (.mk kk items parts names cls levels code env)) (hl : idx.length ≤ 1048576) : Small (d + 1 + 1) (selV kk items parts names cls levels idx) := by
 have hm : ∀ {α : Type} (z : α) (l : List α) (x : α), x ∈ pkL z l idx → x = z ∨ x ∈ l := fun z l x hx => by
  cases l with
  | nil => cases hx
  | cons y l =>
   obtain ⟨i, _, e⟩ := List.mem_map.1 (show x ∈ idx.map (fun i => (y :: l).getD i z) from hx)
   rw [List.getD_eq_getElem?_getD] at e
   cases q : (y :: l)[i]? with
   | none => rw [q] at e; exact .inl e.symm
   | some u => rw [q] at e; obtain rfl : u = x := e; exact .inr (List.mem_of_getElem? q)
 have hc : ∀ l : List ByteArray, (clnN l).length ≤ l.length ∧ ∀ s ∈ clnN l, s ∈ l := fun l => by
  unfold clnN; split
  ·exact ⟨Nat.le_refl _, fun _ h => h⟩
  ·exact ⟨Nat.zero_le _, fun _ h => by cases h⟩
 have hk : (kpC levels cls).length ≤ cls.length ∧ ∀ s ∈ kpC levels cls, s ∈ cls := by
  cases levels with
  | nil => exact ⟨Nat.zero_le _, fun _ h => by cases h⟩
  | cons x l => exact ⟨Nat.le_refl _, fun _ h => h⟩
 unfold Small at h
 obtain ⟨h1, h2, h3, h4, h5, h6, h7, h8, h9, h10⟩ := h
 show Small (d + 1 + 1) (.mk kk (pkL noI items idx) (pkL noV parts idx) (clnN (pkL ⟨#[]⟩ names idx)) (kpC levels cls) levels 0 0)
 unfold Small
 have e1 := pkL_len noI items idx
 have e2 := pkL_len noV parts idx
 have e3 := pkL_len ⟨#[]⟩ names idx
 refine ⟨by omega, by omega, by have := (hc (pkL ⟨#[]⟩ names idx)).1; omega, by have := hk.1; omega, h5, fun x hx => ?_, fun s hs => ?_, fun s hs => h8 s (hk.2 s hs), h9, fun p hp => ?_⟩
 ·rcases hm noI items x hx with rfl | hx
  ·exact Nat.zero_le _
  ·exact h6 x hx
 ·rcases hm ⟨#[]⟩ names s ((hc _).2 s hs) with rfl | hs
  ·exact Nat.zero_le _
  ·exact h7 s hs
 ·rcases hm noV parts p hp with rfl | hp
  ·show Small (d + 1) (.mk 0 [] [] [] [] [] 0 0)
   unfold Small
   exact ⟨Nat.zero_le _, Nat.zero_le _, Nat.zero_le _, Nat.zero_le _, Nat.zero_le _, (fun _ h => by cases h), (fun _ h => by cases h), (fun _ h => by cases h), (fun _ h => by cases h), (fun _ h => by cases h)⟩
  ·exact h10 p hp
end Go.Proofs.YteoalkjngkcheaaGreat

/- The reference's copies of vectors. -/
namespace Go.Proofs.YteoalkjngkcheaaGreat
set_option maxRecDepth 100000
open Go.RowKit
set_option linter.unusedVariables false
theorem RowV.start0 (w : World) (d : Nat) (parts : List Vec) : RowV w (w.alloc (.cells #[] 31)) d parts 0 (.slice (some ⟨w.heap.size, 0, none⟩) 0 0) :=
 ⟨⟨[], [], rfl, rfl, ⟨rfl, .inr ⟨w.heap.size, 0, #[], rfl, Nat.le_refl _, blk_new w _ rfl, Nat.le_refl _, Nat.zero_le _, rfl, rfl⟩⟩, fun i h => absurd h (Nat.not_lt_zero _), List.nodup_nil, fun b h => by cases h⟩, below1 w _⟩
set_option maxHeartbeats 4000000 in
theorem scpStep (d : Nat) (IC : SCV d) : SCP d := by
 refine ⟨fun parts a cap lo hi w hs hhi hsm hall hn => ?_⟩
 have A := hd9 (fun (k : Nat) (w1 : World) (hk : k < parts.length) (hb : Below w.heap.size w w1) => (hs.below hb hhi).at_ hk)
 have C := hd9 (fun (k : Nat) (w1 : World) (x : Value) (hk : k < parts.length) (hb : Below w.heap.size w w1) (hv : VecAt lo hi w1 d (parts.getD k noV) x) => IC.out _ x lo hi w1 hv (Nat.le_trans hhi hb.size) (hsm k hk) (hall k hk).2 (by have := (hall k hk).1.flat.parts; omega))
 have L := hd9 (fun (k : Nat) (w1 : World) (x : Value) (hk : k < parts.length) (hb : Below w.heap.size w w1) (hv : VecAt lo hi w1 d (parts.getD k noV) x) => show Calls Tryz.prog 36 #[x, .int .i64 3] w1 (fun e w' => e = .returned (.bool true) ∧ Below w1.heap.size w1 w') from ((sIsAll 3 (Nat.le_refl _)).out d _ x lo hi w1 hv (Nat.le_trans hhi hb.size) (hsm k hk)).mono (fun e w' h => by rw [bB_yes (hall k hk).1] at h; exact h))
 have FIN := hd9 (fun (wr : World) (v : Value) (h : RowV w wr d parts parts.length v) => h.parts)
 clear hs hsm IC hall
 obtain ⟨n, hn'⟩ : ∃ n, parts.length = n := ⟨_, rfl⟩
 have HNn := hd9 hn'
 rw [hn'] at hn A C L FIN ⊢
 clear hn'
 obtain ⟨i0, hi0, hz0, hz1, hz2⟩ := info_parts infoVec8
 go_enter Tryz.func55, Tryz.ntmps55
 go_wp2
 go_loopw [3, 4] (fun v i wr => ∃ k : Nat, k ≤ n ∧ i = .int .i64 k ∧ RowV w wr d parts k v) (fun _ i _ => n - (intOf i).toNat)
 case atStart => exact ⟨0, Nat.zero_le _, rfl, RowV.start0 w d parts⟩
 case round =>
  obtain ⟨k, hk, rfl, hr⟩ := hrel
  have RV := hd9 hr
  clear hr
  by_cases hlt : k < n
  ·have h40 : k ≤ 40 := by omega
   obtain ⟨b, off, p0, p1, p2, p3, p4, p5, p6, p7, rfl, hbB, hv, c0, c1, c2, c3, c4, c5, c6, c7⟩ := A.out _ _ hlt RV.out.below
   have HV := hd9 hv
   clear hv
   go_wp2_with fail
   refine (L.out _ _ _ hlt RV.out.below HV.out).mono ?_
   rintro e wi ⟨rfl, hbi⟩
   have RV := hd9 (RV.out.keep hbi)
   clear hbi HV c0 c1 c2 c3 c4 c5 c6 c7 hbB
   obtain ⟨b', off', u0, u1, u2, u3, u4, u5, u6, u7, e', hbB, hv, c0, c1, c2, c3, c4, c5, c6, c7⟩ := A.out _ _ hlt RV.out.below
   simp only [Option.some.injEq, Addr.mk.injEq, and_true] at e'
   obtain ⟨rfl, rfl⟩ := e'
   have HV := hd9 hv
   clear hv
   go_wp2_with fail
   refine (C.out _ _ _ hlt RV.out.below HV.out).mono ?_
   rintro e w2 ⟨y, rfl, ho, hb⟩
   obtain ⟨yk, ya1, yn1, ym1, ya2, yn2, ym2, ya3, yn3, ym3, ya4, yn4, ym4, ya5, yn5, ym5, yc, ye, rfl⟩ := ho.agg
   have HO := hd9 ho
   have BW := hd9 hb
   obtain ⟨xs, hxs⟩ := RV.out.row
   have XS := hd9 hxs
   have OR := hd9 (ownsRow_below (ownsRow_below hxs BW.out) (below1 w2 (.cells #[.int .i64 yk, .slice ya1 yn1 ym1, .slice ya2 yn2 ym2, .slice ya3 yn3 ym3, .slice ya4 yn4 ym4, .slice ya5 yn5 ym5, .int .i64 yc, .int .i64 ye] 31)))
   have S1 := hd9 (show w.heap.size ≤ w2.heap.size from (below_then RV.out.below BW.out).size)
   clear ho hb hxs c0 c1 c2 c3 c4 c5 c6 c7
   go_wp2_with (at_builtin; refine wpList_append_own_at _ rfl _ _ 29 rfl w.heap.size 31 i0 _ 8 144 Tryz.underlying29 hi0 hz0 hz1 hz2 rfl (by decide) _ k xs rfl OR.out ⟨w2.heap.size, 0, none⟩ 1 1 [.int .i64 yk, .slice ya1 yn1 ym1, .slice ya2 yn2 ym2, .slice ya3 yn3 ym3, .slice ya4 yn4 ym4, .slice ya5 yn5 ym5, .int .i64 yc, .int .i64 ye] rfl rfl ?c1 ?c2 ?c3 ?c4 ?c5 ?_)
   case c1 =>
    intro j u hj
    have hlt : j < 8 := by have := (List.getElem?_eq_some_iff.1 hj).1; simpa using this
    rw [addr_add, Nat.zero_add]
    refine cellOf (blk_new w2 _ rfl) ?_
    rw [← hj]
    rcases (show j = 0 ∨ j = 1 ∨ j = 2 ∨ j = 3 ∨ j = 4 ∨ j = 5 ∨ j = 6 ∨ j = 7 by omega) with rfl | rfl | rfl | rfl | rfl | rfl | rfl | rfl <;> rfl
   case c2 => intro u hu; simp only [List.mem_cons, List.not_mem_nil, or_false] at hu; rcases hu with rfl | rfl | rfl | rfl | rfl | rfl | rfl | rfl <;> rfl
   case c3 => unfold maxLen; omega
   case c4 => omega
   case c5 => have := S1.out; simp; omega
   intro v' w3 hown' hgrow _ hwh
   have NX := hd9 (RV.out.next HO.out (by simp) BW.out hgrow (fun ys hy => ownsRow_same XS.out hy ▸ hown') (by simpa using hwh))
   clear hown' hgrow hwh
   go_wp2
   go_roundw
   case rel => exact ⟨k + 1, by omega, by go_num, NX.out⟩
   case measure => simp [intOf]; omega
  ·obtain rfl : k = n := by omega
   go_wp2
   obtain ⟨F, h1, h2, h3⟩ := FIN.out _ _ RV.out
   go_ret
   exact ⟨_, F, rfl, h1, h2, h3, RV.out.below, by rw [HNn.out]; exact RV.out.row⟩
theorem scvZero : SCV 0 := ⟨fun _ _ _ _ _ h => h.elim⟩
theorem scvAll : ∀ d, SCV d
 | 0 => scvZero
 | d + 1 => scvStep d (scpStep d (scvAll d))
end Go.Proofs.YteoalkjngkcheaaGreat

/- Parts appended to a vector under way; all parts of a valid vector, however deep, are vectors. -/
namespace Go.Proofs.YteoalkjngkcheaaGreat
open Go.RowKit
set_option maxRecDepth 100000
set_option linter.unusedVariables false

theorem isV_up : ∀ (n : Nat) (v : Vec), IsV n v → IsV (n + 1) v
 | 0, v, h => ⟨h.1, fun i hi => by have := h.2; omega⟩
 | n + 1, v, h => ⟨h.1, fun i hi => isV_up n _ (h.2 i hi)⟩
theorem isV_three {n : Nat} {v : Vec} (hn : n ≤ 3) (h : IsV n v) : IsV 3 v := by
 rcases (show n = 0 ∨ n = 1 ∨ n = 2 ∨ n = 3 by omega) with rfl | rfl | rfl | rfl
 ·exact isV_up _ _ (isV_up _ _ (isV_up _ _ h))
 ·exact isV_up _ _ (isV_up _ _ h)
 ·exact isV_up _ _ h
 ·exact h
theorem allIs_of : ∀ (d n : Nat) (v : Vec), n ≤ 3 → IsV n v → AllIs d v
 | 0, _, _, _, _ => trivial
 | d + 1, 0, v, _, h => fun i hi => by have := h.2; omega
 | d + 1, n + 1, v, hn, h => fun i hi => ⟨isV_three (by omega) (h.2 i hi), allIs_of d n _ (by omega) (h.2 i hi)⟩
theorem part_is {v : Vec} (h : IsV 3 v) (d i : Nat) (hi : i < (partsV v).length) : AllIs d ((partsV v).getD i noV) ∧ (partsV ((partsV v).getD i noV)).length ≤ 41 ∧ IsV 2 ((partsV v).getD i noV) := by
 have h2 := h.2 i hi
 exact ⟨allIs_of d 2 _ (by omega) h2, by have := h2.flat.parts; omega, h2⟩
theorem RowX.snocX {lo : Nat} {w w' : World} {d : Nat} {parts : List Vec} {v' : Value} {F : List Nat} {p : Vec} {c0 c1 c2 c3 c4 c5 c6 c7 : Value} {vals : List Value} {Fs : List (List Nat)} (h1 : vals.length = parts.length) (h2 : Fs.length = parts.length)
  (h4 : ∀ i, i < parts.length → OwnVec w d (parts.getD i noV) (vals.getD i undef) (Fs.getD i [])) (ho : OwnVec w' d p (.agg #[c0, c1, c2, c3, c4, c5, c6, c7]) F)
  (hr : w'.ownsRow lo 31 8 v' (parts.length + 1) (vals.flatMap cl8 ++ [c0, c1, c2, c3, c4, c5, c6, c7])) (hX : ∀ g ∈ Fs.flatten, w'.heap[g]? = w.heap[g]?) : RowX lo w' d (parts ++ [p]) v' (Fs.flatten ++ F) := by
 have hl : (parts ++ [p]).length = parts.length + 1 := by simp
 refine ⟨vals ++ [Value.agg #[c0, c1, c2, c3, c4, c5, c6, c7]], Fs ++ [F], by simp [h1], by simp [h2], ?_, fun i hi => ?_, by simp⟩
 ·rw [hl, List.flatMap_append]
  exact hr
 ·rw [hl] at hi
  by_cases e : i = parts.length
  ·subst e
   have e0 : (parts ++ [p]).getD parts.length noV = p := by rw [List.getD_eq_getElem?_getD, List.getElem?_append_right (by omega)]; simp
   have e1 : (vals ++ [Value.agg #[c0, c1, c2, c3, c4, c5, c6, c7]]).getD parts.length undef = .agg #[c0, c1, c2, c3, c4, c5, c6, c7] := by rw [List.getD_eq_getElem?_getD, List.getElem?_append_right (by omega)]; simp [h1]
   have e2 : (Fs ++ [F]).getD parts.length [] = F := by rw [List.getD_eq_getElem?_getD, List.getElem?_append_right (by omega)]; simp [h2]
   rw [e0, e1, e2]
   exact ho
  ·have e0 : (parts ++ [p]).getD i noV = parts.getD i noV := by rw [List.getD_eq_getElem?_getD, List.getD_eq_getElem?_getD, List.getElem?_append_left (by omega)]
   have e1 : (vals ++ [Value.agg #[c0, c1, c2, c3, c4, c5, c6, c7]]).getD i undef = vals.getD i undef := by rw [List.getD_eq_getElem?_getD, List.getD_eq_getElem?_getD, List.getElem?_append_left (by omega)]
   have e2 : (Fs ++ [F]).getD i [] = Fs.getD i [] := by rw [List.getD_eq_getElem?_getD, List.getD_eq_getElem?_getD, List.getElem?_append_left (by omega)]
   rw [e0, e1, e2]
   exact (h4 i (by omega)).kept _ _ _ _ (fun b hb => hX b (mem_flat (by omega) hb))
theorem Und.snocP {lo : Nat} {w0 w1 w2 : World} {d : Nat} {items : List It} {parts : List Vec} {names cls lev : List ByteArray} {vi vp vn vc vl v' : Value} {X : List Nat} {p : Vec} {c0 c1 c2 c3 c4 c5 c6 c7 : Value} {vals : List Value} {Fs : List (List Nat)} (h : Und lo w0 d items parts names cls lev vi vp vn vc vl X) (hb : Below w0.heap.size w0 w1)
  (h1 : vals.length = parts.length) (h2 : Fs.length = parts.length) (h4 : ∀ i, i < parts.length → OwnVec w1 d (parts.getD i noV) (vals.getD i undef) (Fs.getD i [])) (h5 : Fs.flatten = X) (ho : Own d p (.agg #[c0, c1, c2, c3, c4, c5, c6, c7]) w0.heap.size w1.heap.size w1)
  (hr : w2.ownsRow lo 31 8 v' (parts.length + 1) (vals.flatMap cl8 ++ [c0, c1, c2, c3, c4, c5, c6, c7])) (hm : Moved w1 vp v') (hG : ∀ g, lo ≤ g → g < w1.heap.size → vp.ownBlock ≠ some g → w2.heap[g]? = w1.heap[g]?) (hs : w1.heap.size ≤ w2.heap.size) (hlo : lo ≤ w0.heap.size) :
  ∃ X', Und lo w2 d items (parts ++ [p]) names cls lev vi v' vn vc vl X' := by
 subst h5
 obtain ⟨F, ho1, ho2, ho3⟩ := ho.out
 have hpb := h.pb
 have h01 := hb.size
 have hF : ∀ g ∈ F, vp.ownBlock ≠ some g := fun g hg e => by have := hpb.1 g e; have := ho3 g hg; omega
 have hXk : ∀ g ∈ Fs.flatten, w2.heap[g]? = w1.heap[g]? := fun g hg => by
  have hr := h.rg g hg
  exact hG g hr.1 (by omega) (fun e => h.off.2.1 g e hg)
 have hR := RowX.snocX h1 h2 h4 (ho1.kept _ _ _ _ (fun g hg => by have := ho3 g hg; exact hG g (by omega) (by omega) (hF g hg))) hr hXk
 have hm0 : Moved w0 vp v' := by
  rcases hm with e | ⟨g, e, hg⟩
  ·exact .inl e
  ·exact .inr ⟨g, e, by omega⟩
 refine ⟨Fs.flatten ++ F, h.setP hR hm0 (fun g hg hlt hne => (hG g hg (by omega) hne).trans (hb.block g hlt)) (by omega) ?_ (fun g hg => ?_) hlo ?_⟩
 ·rw [List.nodup_append]
  refine ⟨h.nd, ho2, fun a ha b hb' e => ?_⟩
  have := (h.rg a ha).2
  have := (ho3 b hb').1
  omega
 ·rcases List.mem_append.1 hg with h' | h'
  ·have := (h.rg g h').2; exact ⟨.inl h', by omega⟩
  ·have := ho3 g h'; exact ⟨.inr this.1, by omega⟩
 ·intro g hg hx
  rcases hm with e | ⟨g', e, hge⟩
  ·rcases List.mem_append.1 hx with h' | h'
   ·exact h.off.2.1 g (e ▸ hg) h'
   ·exact hF g h' (e ▸ hg)
  ·rw [e] at hg
   obtain rfl := Option.some.inj hg
   rcases List.mem_append.1 hx with h' | h'
   ·have := (h.rg _ h').2; omega
   ·have := (ho3 _ h').2; omega
section
variable {ops : Array Oper} {Q : Exit → Act → World → Prop} {S : World → Prop} {w0 : World} {L : List (Nat × TypeId × Array Value)}
variable {r : List (Nat × Bool)} {a : Act} {e : List (Nat × Value)} {w : World} {i d : Nat} {g : Option (Nat × Bool)} {v : Value}
theorem run_idx8 {x y : Operand} {b off n c k : Nat} (ho : opAt ops i = some (some d, .indexAddr 29 x y, g)) (hd : Nat.blt d a.tmps.size = true) (hw : wantE ops a e g = some true)
  (hx : lookO a e x = .slice (some ⟨b, off, none⟩) n c) (hy : lookO a e y = .int .i64 (k : Int)) (hk : k < n)
  (h : RunE Tryz.prog ops Q S r a ((d, .pointer (some ⟨b, off + k * 8, none⟩)) :: e) w) : RunE Tryz.prog ops Q S ((i, true) :: r) a e w :=
 run_yield ho hd hw (fun o w' h1 _ => by
  unfold execOp; rw [h1]; simp only [hx, hy]
  refine run_v ?_
  obtain ⟨ie, hie, _, hsz, _⟩ := info_parts infoVec8
  have he : Tryz.prog.elem 29 = 31 := by kernel_rfl
  rw [← he] at hie
  rw [run_indexAt_slice (h := Tryz.underlying29), if_pos ⟨Int.natCast_nonneg k, by omega⟩]
  simp [sizeOf, typeInfo, hie, hsz, addr_add]) h
/-- A vector that lay there at the outset, among others. -/
theorem runC_oldV {x : Operand} {b j : Nat} {c0 c1 c2 c3 c4 c5 c6 c7 : Value} (ho : opAt ops i = some (some d, .load 31 x, g)) (hd : Nat.blt d a.tmps.size = true) (hw : wantE ops a e g = some true)
  (hx : lookO a e x = .pointer (some ⟨b, j, none⟩)) (hb : b < w0.heap.size) (h0 : w0.cell? ⟨b, j, none⟩ = some c0) (h1 : w0.cell? ⟨b, j + 1, none⟩ = some c1) (h2 : w0.cell? ⟨b, j + 2, none⟩ = some c2) (h3 : w0.cell? ⟨b, j + 3, none⟩ = some c3) (h4 : w0.cell? ⟨b, j + 4, none⟩ = some c4) (h5 : w0.cell? ⟨b, j + 5, none⟩ = some c5) (h6 : w0.cell? ⟨b, j + 6, none⟩ = some c6) (h7 : w0.cell? ⟨b, j + 7, none⟩ = some c7)
  (h : RunE Tryz.prog ops Q (fun w' => HeldC w0 w' L) r a ((d, .agg #[c0, c1, c2, c3, c4, c5, c6, c7]) :: e) w) : RunE Tryz.prog ops Q (fun w' => HeldC w0 w' L) ((i, true) :: r) a e w :=
 run_load ho hd hw hx (fun w' hS => run_loadVar_mid w' b j 31 [c0, c1, c2, c3, c4, c5, c6, c7] _ (fun k v hv => by
  have hlt : k < 8 := by have := (List.getElem?_eq_some_iff.1 hv).1; simpa using this
  rw [hS.1.cell (p := ⟨b, j + k, none⟩) hb, ← hv]
  rcases (show k = 0 ∨ k = 1 ∨ k = 2 ∨ k = 3 ∨ k = 4 ∨ k = 5 ∨ k = 6 ∨ k = 7 by omega) with rfl | rfl | rfl | rfl | rfl | rfl | rfl | rfl
  ·exact h0
  ·exact h1
  ·exact h2
  ·exact h3
  ·exact h4
  ·exact h5
  ·exact h6
  ·exact h7) Tryz.underlying31 rfl infoVec) h
end
end Go.Proofs.YteoalkjngkcheaaGreat

/- Many elements appended; parts onto a vector under way. -/
namespace Go.Proofs.YteoalkjngkcheaaGreat
open Go.RowKit
set_option maxRecDepth 100000
set_option linter.unusedVariables false

theorem grownM (w : World) (r : Option Nat) : w.grownBy w r := ⟨rfl, rfl, rfl, Nat.le_refl _, fun _ _ _ => rfl⟩
section
variable {P : Program} {ops : Array Oper} {Q : Exit → Act → World → Prop} {S : World → Prop}
variable {r : List (Nat × Bool)} {a : Act} {e : List (Nat × Value)} {w : World} {i d : Nat} {g : Option (Nat × Bool)} {v : Value}
end
theorem wpList_appM {P : Program} {w : World} {ops : Array Oper} {rest : List Oper} {o : Oper} {a : Act} {Q : Exit → Act → World → Prop} (hgd : o.guard = none) (s x : Operand) (t : TypeId) {el : TypeId}
  (ho : o.op = .call { callee := .builtin .append, args := #[s, x], argTypes := #[t, t] }) (base : Nat) (ie : TypeInfo) (z : Value) (size bytes : Nat) (ht : P.underlying t = some (.slice el)) (hi : P.info? el = some ie) (hz : ie.zero = some z) (hsize : ie.size = size) (hby : ie.bytes = bytes) (hzs : z.cells.size = size) (hsz : 0 < size)
  (v0 : Value) (n : Nat) (xs : List Value) (hs : a.eval s = v0) (hown : w.ownsRow base el size v0 n xs) (ad : Option Addr) (m c : Nat) (news : List Value) (hx : a.eval x = .slice ad m c) (h0 : m = 0 → n = 0) (hl : news.length = m * size) (hnews : 0 < m → ∃ b : Addr, ad = some b ∧ ∀ j u, news[j]? = some u → w.cell? (b.add j) = some u) (h1 : ∀ u ∈ news, u.oneCell' = true)
  (h63 : n + m ≤ maxLen) (hbytes : (n + m) * bytes ≤ 140737488355328) (hbase : base ≤ w.heap.size)
  (h : ∀ v' w', w'.ownsRow base el size v' (n + m) (xs ++ news) → w.grownBy w' v0.ownBlock → Moved w v0 v' → wpList P ops Q rest (a.put o.dst v') w') : wpList P ops Q (o :: rest) a w := by
 by_cases hm : 0 < m
 ·obtain ⟨b, rfl, hn2⟩ := hnews hm
  exact wpList_append_own_at w hgd s x t ho base el ie z size bytes ht hi hz hsize hby hzs hsz v0 n xs hs hown b m c news hx hl hn2 h1 h63 hbytes hbase (fun v' w' q1 q2 _ q4 => h v' w' q1 q2 (q4.imp id (fun e => ⟨_, e, Nat.le_refl _⟩)))
 ·obtain rfl : m = 0 := by omega
  obtain rfl := h0 rfl
  have hxs : xs = [] := List.eq_nil_of_length_eq_zero (by rw [hown.1, Nat.zero_mul])
  have hns : news = [] := List.eq_nil_of_length_eq_zero (by rw [hl, Nat.zero_mul])
  subst hxs
  subst hns
  have hrun := fun ty => run_app0W (P := P) (w := w) (ty := ty) (v0 := v0) ht hi (by
   obtain ⟨_, ⟨e, _⟩ | ⟨g, k, _, e, _⟩⟩ := hown
   ·exact .inl e
   ·exact .inr ⟨g, k, e⟩) ad c
  refine wpList_plain hgd fun K hK => ?_
  have hnext := h v0 w hown (grownM _ _) (.inl rfl)
  unfold Oper.wp
  simp [execOp, ho, resolve, invoke, builtin, hs, hx, hrun, Result.andThen]
  exact hK _ _ hnext
end Go.Proofs.YteoalkjngkcheaaGreat

/- LogicOf as data. -/
namespace Go.Proofs.YteoalkjngkcheaaGreat
open Go.RowKit
set_option maxRecDepth 100000
set_option linter.unusedVariables false

def andB : ByteArray := ⟨#[38]⟩
def orB : ByteArray := ⟨#[124]⟩
/-- "unknown operator" -/
def unkB : ByteArray := ⟨#[117, 110, 107, 110, 111, 119, 110, 32, 111, 112, 101, 114, 97, 116, 111, 114]⟩
/-- "lengths do not match" -/
def lenB : ByteArray := ⟨#[108, 101, 110, 103, 116, 104, 115, 32, 100, 111, 32, 110, 111, 116, 32, 109, 97, 116, 99, 104]⟩
noncomputable def connL (op : ByteArray) (x y : Int) : Int := match bB (op = andB) with | true => aL x y | false => oL x y
def itL (v : Vec) : Nat := (itemsV v).length
def lgcN (a b : Vec) : Int := sizeL (itL a) (itL b)
noncomputable def lgcF (op : ByteArray) (a b : Vec) (i : Nat) : Int := connL op (truthI ((itemsV a).getD (i % itL a) noI)) (truthI ((itemsV b).getD (i % itL b) noI))
noncomputable def lgcS (op : ByteArray) (a b : Vec) : ByteArray := match bB (ValidV a ∧ ValidV b) with
 | false => badB
 | true => match bB (op = andB ∨ op = orB) with
  | false => unkB
  | true => match bB (Counts a ∧ Counts b) with
   | false => nonLogB
   | true => match bB (0 ≤ lgcN a b) with | false => lenB | true => ⟨#[]⟩
noncomputable def lgcV (op : ByteArray) (a b : Vec) : Vec := match bB (ValidV a ∧ ValidV b) with
 | false => noV
 | true => match bB (op = andB ∨ op = orB) with
  | false => noV
  | true => match bB (Counts a ∧ Counts b) with
   | false => noV
   | true => match bB (0 ≤ lgcN a b) with | false => noV | true => mkN 1 (itF (fun i => logI (lgcF op a b i)) (lgcN a b).toNat) (namesL (itL a) (itL b) (lgcN a b).toNat (namesV a) (namesV b))
noncomputable def cntL (v : Vec) : Nat := match bB (Counts v) with | true => itL v | false => 0
end Go.Proofs.YteoalkjngkcheaaGreat

/- Whether operands suit an operator, in the program. -/
namespace Go.Proofs.YteoalkjngkcheaaGreat
open Go.RowKit
set_option maxRecDepth 100000
set_option linter.unusedVariables false

def matchL (m n : Nat) : Prop := 0 ≤ sizeL m n
/-- What problemOfOperands finds where the operands must count as numbers. -/
noncomputable def prbB (known : Bool) (a b : Vec) (uns : ByteArray) : ByteArray := match bB (ValidV a ∧ ValidV b) with
 | false => badB
 | true => match known with
  | false => unkB
  | true => match bB (Counts a ∧ Counts b) with
   | false => uns
   | true => match bB (matchL (itL a) (itL b)) with | false => lenB | true => ⟨#[]⟩
end Go.Proofs.YteoalkjngkcheaaGreat

/- The reference's l4Clean: names that are all empty are left out. -/
namespace Go.Proofs.YteoalkjngkcheaaGreat
set_option maxRecDepth 100000
open Go.RowKit
set_option linter.unusedVariables false
set_option maxHeartbeats 4000000 in
theorem specClean (kk code env : Int) (items : List It) (parts : List Vec) (names cls levels : List ByteArray) (ai ap an ac al : Option Addr) (ci cp cn cc cl lo hi : Nat) (w : World) (hN : TextsAt lo hi w an names) (hhi : hi ≤ w.heap.size) (ln : names.length ≤ 1048576) :
  Calls Tryz.prog 42 #[.agg #[.int .i64 kk, .slice ai items.length ci, .slice ap parts.length cp, .slice an names.length cn, .slice ac cls.length cc, .slice al levels.length cl, .int .i64 code, .int .i64 env]] w fun e w' => Below w.heap.size w w' ∧ (((∃ i, i < names.length ∧ txtS names i ≠ ⟨#[]⟩) ∧ e = .returned (.agg #[.int .i64 kk, .slice ai items.length ci, .slice ap parts.length cp, .slice an names.length cn, .slice ac cls.length cc, .slice al levels.length cl, .int .i64 code, .int .i64 env])) ∨
   ((∀ i, i < names.length → txtS names i = ⟨#[]⟩) ∧ ∃ g, w.heap.size ≤ g ∧ e = .returned (.agg #[.int .i64 kk, .slice ai items.length ci, .slice ap parts.length cp, .slice (some ⟨g, 0, none⟩) 0 0, .slice ac cls.length cc, .slice al levels.length cl, .int .i64 code, .int .i64 env]))) := by
 have HT := hd9 (fun (w1 : World) (hb : Below w.heap.size w w1) (k : Nat) (hk : k < names.length) => show ∃ b off, an = some ⟨b, off, none⟩ ∧ w1.cell? ⟨b, off + k, none⟩ = some (.string (txtS names k)) from by
  obtain ⟨b, off, e, _, _, h⟩ := (hN.below hb hhi) k (txtS names k) (by unfold txtS; simp [List.getD_eq_getElem?_getD, List.getElem?_eq_getElem hk])
  exact ⟨b, off, e, h⟩)
 clear hN
 obtain ⟨n, hn⟩ : ∃ n, names.length = n := ⟨_, rfl⟩
 rw [hn] at HT ln ⊢
 clear hn
 go_enter Tryz.func42, Tryz.ntmps42
 obtain ⟨w1, hw1⟩ : ∃ W, (w.alloc (.cells #[.int .i64 kk, .slice ai items.length ci, .slice ap parts.length cp, .slice an n cn, .slice ac cls.length cc, .slice al levels.length cl, .int .i64 code, .int .i64 env] 31)).alloc (.cells #[.int .i64 0, .slice none 0 0, .slice none 0 0, .slice none 0 0, .slice none 0 0, .slice none 0 0, .int .i64 0, .int .i64 0] 31) = W := ⟨_, rfl⟩
 have hsz : (w.alloc (.cells #[.int .i64 kk, .slice ai items.length ci, .slice ap parts.length cp, .slice an n cn, .slice ac cls.length cc, .slice al levels.length cl, .int .i64 code, .int .i64 env] 31)).heap.size = w.heap.size + 1 := by simp
 have B1 := hd9 (show Below w.heap.size w w1 from hw1 ▸ (below1 w _).alloc (by simp) _)
 have KA := hd9 (show w1.heap[w.heap.size]? = some (.cells #[.int .i64 kk, .slice ai items.length ci, .slice ap parts.length cp, .slice an n cn, .slice ac cls.length cc, .slice al levels.length cl, .int .i64 code, .int .i64 env] 31 (0, 0)) from hw1 ▸ blk_old (blk_new w _ rfl))
 have KR := hd9 (show w1.heap[w.heap.size + 1]? = some (.cells #[.int .i64 0, .slice none 0 0, .slice none 0 0, .slice none 0 0, .slice none 0 0, .slice none 0 0, .int .i64 0, .int .i64 0] 31 (0, 0)) from hw1 ▸ hsz ▸ blk_new (w.alloc (.cells #[.int .i64 kk, .slice ai items.length ci, .slice ap parts.length cp, .slice an n cn, .slice ac cls.length cc, .slice al levels.length cl, .int .i64 code, .int .i64 env] 31)) (.cells #[.int .i64 0, .slice none 0 0, .slice none 0 0, .slice none 0 0, .slice none 0 0, .slice none 0 0, .int .i64 0, .int .i64 0] 31) rfl)
 have EW := hd9 hw1
 clear hw1 hsz
 go_wp2
 go_loopw [3] (fun i wr => ∃ k : Nat, k ≤ n ∧ i = .int .i64 k ∧ wr = w1 ∧ ∀ j, j < k → txtS names j = ⟨#[]⟩) (fun i _ => n - (intOf i).toNat)
 case atStart => exact ⟨0, Nat.zero_le _, rfl, EW.out, fun j h => absurd h (Nat.not_lt_zero _)⟩
 case round =>
  obtain ⟨k, hk, rfl, rfl, hj⟩ := hrel
  have HJ := hd9 hj
  clear hj
  obtain ⟨k0, k1, k2, k3, k4, k5, k6, k7⟩ := vec8 KA.out
  by_cases hlt : k < n
  ·obtain ⟨b, off, rfl, c⟩ := HT.out _ B1.out _ hlt
   by_cases q : txtS names k = ⟨#[]⟩
   ·rw [q] at c
    have Q := hd9 q
    clear q
    go_wp2
    go_roundw
    case rel => exact ⟨k + 1, by omega, by go_num, trivial, fun j h => by
     rcases Nat.lt_or_ge j k with h' | h'
     ·exact HJ.out j h'
     ·obtain rfl : j = k := by omega
      exact Q.out⟩
    case measure => simp [intOf]; omega
   ·obtain ⟨x, hx⟩ : ∃ x, txtS names k = x := ⟨_, rfl⟩
    rw [hx] at c
    have Q := hd9 q
    have hxb : (x.toList == []) = false := by have h := str_not (hx ▸ q); rw [ByteArray.toList_eq ⟨#[]⟩] at h; exact h
    clear q hx
    obtain ⟨z0, z1, z2, z3, z4, z5, z6, z7⟩ := vec8 KR.out
    obtain ⟨f0, f1, f2, f3, f4, f5, f6, f7⟩ := free8 KR.out
    go_wp2
    exact vec_end rfl rfl rfl KR.out ⟨put8_below B1.out (Nat.le_succ _), .inl ⟨⟨k, hlt, Q.out⟩, rfl⟩⟩
  ·obtain rfl : k = n := by omega
   go_upto_region 6 with (fail)
   clear k0 k1 k2 k3 k4 k5 k6 k7
   have KA2 := hd9 (show (wr.alloc (.cells #[] 9)).heap[w.heap.size]? = some (.cells #[.int .i64 kk, .slice ai items.length ci, .slice ap parts.length cp, .slice an k cn, .slice ac cls.length cc, .slice al levels.length cl, .int .i64 code, .int .i64 env] 31 (0, 0)) from blk_old KA.out)
   have KR2 := hd9 (show (wr.alloc (.cells #[] 9)).heap[w.heap.size + 1]? = some (.cells #[.int .i64 0, .slice none 0 0, .slice none 0 0, .slice none 0 0, .slice none 0 0, .slice none 0 0, .int .i64 0, .int .i64 0] 31 (0, 0)) from blk_old KR.out)
   have u2 : ∃ x, (wr.alloc (.cells #[] 9)).cell? ⟨w.heap.size, 3, none⟩ = some x := ⟨_, cellOf KA2.out rfl⟩
   obtain ⟨x2, hx2⟩ := u2
   have hf2 : (wr.alloc (.cells #[] 9)).frozen? ⟨w.heap.size, 3, none⟩ = false := freeOf KA2.out
   obtain ⟨w3, hw⟩ : ∃ W, (wr.alloc (.cells #[] 9)).setCell ⟨w.heap.size, 3, none⟩ (.slice (some ⟨wr.heap.size, 0, none⟩) 0 0) = W := ⟨_, rfl⟩
   have KA3 := hd9 (show w3.heap[w.heap.size]? = some (.cells #[.int .i64 kk, .slice ai items.length ci, .slice ap parts.length cp, .slice (some ⟨wr.heap.size, 0, none⟩) 0 0, .slice ac cls.length cc, .slice al levels.length cl, .int .i64 code, .int .i64 env] 31 (0, 0)) from hw ▸ Joins.block_setCell KA2.out _)
   have KR3 := hd9 (show w3.heap[w.heap.size + 1]? = some (.cells #[.int .i64 0, .slice none 0 0, .slice none 0 0, .slice none 0 0, .slice none 0 0, .slice none 0 0, .int .i64 0, .int .i64 0] 31 (0, 0)) from hw ▸ (Below.heap_setCell _ _ _ _ (by show w.heap.size + 1 ≠ w.heap.size; omega)).trans KR2.out)
   have B3 := hd9 (show Below w.heap.size w w3 from hw ▸ (B1.out.alloc B1.out.size _).setCell (p := ⟨w.heap.size, 3, none⟩) (Nat.le_refl _) _)
   have EW3 := hd9 hw
   clear hw
   go_upto_region 7 with (fail)
   rw [EW3.out]
   clear hx2 hf2
   obtain ⟨k0, k1, k2, k3, k4, k5, k6, k7⟩ := vec8 KA3.out
   obtain ⟨z0, z1, z2, z3, z4, z5, z6, z7⟩ := vec8 KR3.out
   obtain ⟨f0, f1, f2, f3, f4, f5, f6, f7⟩ := free8 KR3.out
   go_wp2
   exact vec_end rfl rfl rfl KR3.out ⟨put8_below B3.out (Nat.le_succ _), .inr ⟨HJ.out, wr.heap.size, B1.out.size, rfl⟩⟩
end Go.Proofs.YteoalkjngkcheaaGreat

/- The reference's l4Pick: elements of an atomic vector at positions within its length. -/
namespace Go.Proofs.YteoalkjngkcheaaGreat
open Go.RowKit
set_option maxRecDepth 100000
set_option linter.unusedVariables false

theorem pkT_succ {α : Type} {z : α} {l : List α} {idx : List Nat} {k : Nat} (h : l.length ≠ 0) (hk : k < idx.length) : pkL z l (idx.take (k + 1)) = pkL z l (idx.take k) ++ [l.getD (idx.getD k 0) z] := by
 rw [pkL_some h, pkL_some h, List.take_add_one, List.map_append]
 simp [List.getD_eq_getElem?_getD, hk]
theorem pkT_full {α : Type} (z : α) (l : List α) (idx : List Nat) : pkL z l (idx.take idx.length) = pkL z l idx := by rw [List.take_length]
theorem pkT_zero {α : Type} (z : α) (l : List α) (idx : List Nat) : pkL z l (idx.take 0) = [] := by
 cases l with
 | nil => rfl
 | cons x l => rfl
theorem pkT_len {α : Type} (z : α) (l : List α) (idx : List Nat) (k : Nat) : (pkL z l (idx.take k)).length ≤ k := by
 have := pkL_len z l (idx.take k)
 rw [List.length_take] at this
 omega
theorem Und.keep {lo : Nat} {w : World} {d : Nat} {items : List It} {parts : List Vec} {names cls lev : List ByteArray} {vi vp vn vc vl : Value} {X : List Nat} {w' : World} (h : Und lo w d items parts names cls lev vi vp vn vc vl X) (hb : Below w.heap.size w w') : Und lo w' d items parts names cls lev vi vp vn vc vl X := h.below hb
theorem row_form {lo : Nat} {w : World} {el : TypeId} {size n : Nat} {v : Value} {xs : List Value} (h : w.ownsRow lo el size v n xs) : ∃ s c, v = .slice s n c := by
 obtain ⟨_, ⟨e, h0⟩ | ⟨g, cap, cur, e, _⟩⟩ := h
 ·subst h0; exact ⟨_, _, e⟩
 ·exact ⟨_, _, e⟩
theorem specCleanN (kk code env : Int) (ai ap an ac al : Option Addr) (ni ci np cp cn nc cc nl cl : Nat) (names : List ByteArray) (lo hi : Nat) (w : World) (hN : TextsAt lo hi w an names) (hhi : hi ≤ w.heap.size) (ln : names.length ≤ 1048576) :
  Calls Tryz.prog 42 #[.agg #[.int .i64 kk, .slice ai ni ci, .slice ap np cp, .slice an names.length cn, .slice ac nc cc, .slice al nl cl, .int .i64 code, .int .i64 env]] w fun e w' => Below w.heap.size w w' ∧ (((∃ i, i < names.length ∧ txtS names i ≠ ⟨#[]⟩) ∧ e = .returned (.agg #[.int .i64 kk, .slice ai ni ci, .slice ap np cp, .slice an names.length cn, .slice ac nc cc, .slice al nl cl, .int .i64 code, .int .i64 env])) ∨
   ((∀ i, i < names.length → txtS names i = ⟨#[]⟩) ∧ ∃ g, w.heap.size ≤ g ∧ e = .returned (.agg #[.int .i64 kk, .slice ai ni ci, .slice ap np cp, .slice (some ⟨g, 0, none⟩) 0 0, .slice ac nc cc, .slice al nl cl, .int .i64 code, .int .i64 env]))) := by
 have h := specClean kk code env (List.replicate ni noI) (List.replicate np noV) names (List.replicate nc ⟨#[]⟩) (List.replicate nl ⟨#[]⟩) ai ap an ac al ci cp cn cc cl lo hi w hN hhi ln
 simp only [List.length_replicate] at h
 exact h
theorem far_two {lo : Nat} {v : Value} {g b : Nat} {t t2 : TypeId} {C C2 : Array Value} {q : Nat × TypeId × Array Value} (h : ∀ k, v.ownBlock = some k → lo ≤ k) (hg : g < lo) (hb : b < lo) (hq : q ∈ [(g, t, C), (b, t2, C2)]) : ∀ k, v.ownBlock = some k → q.1 ≠ k := by
 intro k hk e
 have := h k hk
 simp only [List.mem_cons, List.not_mem_nil, or_false] at hq
 rcases hq with rfl | rfl <;> (simp only at e; omega)
end Go.Proofs.YteoalkjngkcheaaGreat

/- A missing element behind the others: the program. -/
namespace Go.Proofs.YteoalkjngkcheaaGreat
open Go.RowKit
set_option maxRecDepth 100000
set_option linter.unusedVariables false

theorem Und.snocQ {lo : Nat} {w0 w1 w2 : World} {d : Nat} {items : List It} {parts : List Vec} {names cls lev : List ByteArray} {vi vp vn vc vl v' : Value} {X : List Nat} {p : Vec} {c0 c1 c2 c3 c4 c5 c6 c7 : Value} {vals : List Value} {Fs : List (List Nat)} (h : Und lo w0 d items parts names cls lev vi vp vn vc vl X) (hb : Below w0.heap.size w0 w1)
  (h1 : vals.length = parts.length) (h2 : Fs.length = parts.length) (h4 : ∀ i, i < parts.length → OwnVec w1 d (parts.getD i noV) (vals.getD i undef) (Fs.getD i [])) (h5 : Fs.flatten = X) (ho : Own d p (.agg #[c0, c1, c2, c3, c4, c5, c6, c7]) w0.heap.size w1.heap.size w1)
  (hr : w2.ownsRow lo 31 8 v' (parts.length + 1) (vals.flatMap cl8 ++ [c0, c1, c2, c3, c4, c5, c6, c7])) (hm : Moved w1 vp v') (hG : ∀ g, lo ≤ g → g < w1.heap.size → vp.ownBlock ≠ some g → w2.heap[g]? = w1.heap[g]?) (hs : w1.heap.size ≤ w2.heap.size) (hlo : lo ≤ w0.heap.size) :
  ∃ X', Und lo w2 d items (parts ++ [p]) names cls lev vi v' vn vc vl X' ∧ ∀ g ∈ X', g ∈ X ∨ w0.heap.size ≤ g := by
 subst h5
 obtain ⟨F, ho1, ho2, ho3⟩ := ho.out
 have hpb := h.pb
 have h01 := hb.size
 have hF : ∀ g ∈ F, vp.ownBlock ≠ some g := fun g hg e => by have := hpb.1 g e; have := ho3 g hg; omega
 have hXk : ∀ g ∈ Fs.flatten, w2.heap[g]? = w1.heap[g]? := fun g hg => by
  have hr := h.rg g hg
  exact hG g hr.1 (by omega) (fun e => h.off.2.1 g e hg)
 have hR := RowX.snocX h1 h2 h4 (ho1.kept _ _ _ _ (fun g hg => by have := ho3 g hg; exact hG g (by omega) (by omega) (hF g hg))) hr hXk
 have hm0 : Moved w0 vp v' := by
  rcases hm with e | ⟨g, e, hg⟩
  ·exact .inl e
  ·exact .inr ⟨g, e, by omega⟩
 refine ⟨Fs.flatten ++ F, h.setP hR hm0 (fun g hg hlt hne => (hG g hg (by omega) hne).trans (hb.block g hlt)) (by omega) ?_ (fun g hg => ?_) hlo ?_, fun g hg => (List.mem_append.1 hg).imp id (fun h1 => (ho3 g h1).1)⟩
 ·rw [List.nodup_append]
  refine ⟨h.nd, ho2, fun a ha b hb' e => ?_⟩
  have := (h.rg a ha).2
  have := (ho3 b hb').1
  omega
 ·rcases List.mem_append.1 hg with h' | h'
  ·have := (h.rg g h').2; exact ⟨.inl h', by omega⟩
  ·have := ho3 g h'; exact ⟨.inr this.1, by omega⟩
 ·intro g hg hx
  rcases hm with e | ⟨g', e, hge⟩
  ·rcases List.mem_append.1 hx with h' | h'
   ·exact h.off.2.1 g (e ▸ hg) h'
   ·exact hF g h' (e ▸ hg)
  ·rw [e] at hg
   obtain rfl := Option.some.inj hg
   rcases List.mem_append.1 hx with h' | h'
   ·have := (h.rg _ h').2; omega
   ·have := (ho3 _ h').2; omega
theorem block_cells {w : World} {b : Nat} {C : Array Value} {t : TypeId} (h : w.heap[b]? = some (.cells C t (0, 0))) : ∀ j u, C.toList[j]? = some u → w.cell? ((⟨b, 0, none⟩ : Addr).add j) = some u := by
 intro j u hj
 rw [addr_add]
 exact cellOf (i := 0 + j) h (by rw [Nat.zero_add, ← Array.getElem?_toList]; exact hj)
theorem size1 (w : World) (o : Obj) : w.heap.size ≤ (w.alloc o).heap.size := by simp
theorem infoIs : ∃ ie : TypeInfo, Tryz.prog.info? 64 = some ie ∧ ie.zero = some (.agg #[.int .i64 0, .int .i64 0, .string ⟨#[]⟩]) ∧ ie.size = 3 ∧ ie.bytes = 32 := info_parts infoItm3
theorem infoSs : ∃ ie : TypeInfo, Tryz.prog.info? 9 = some ie ∧ ie.zero = some (.string ⟨#[]⟩) ∧ ie.size = 1 ∧ ie.bytes = 16 := info_parts infoStr
theorem infoVs : ∃ ie : TypeInfo, Tryz.prog.info? 31 = some ie ∧ ie.zero = some (.agg #[.int .i64 0, .slice none 0 0, .slice none 0 0, .slice none 0 0, .slice none 0 0, .slice none 0 0, .int .i64 0, .int .i64 0]) ∧ ie.size = 8 ∧ ie.bytes = 144 := info_parts infoVec8
set_option maxHeartbeats 8000000 in
theorem implMissing (d : Nat) (kk : Int) (items : List It) (parts : List Vec) (names cls levels : List ByteArray) (ai ap an ac al : Option Addr) (ci cp cn cc cl lo hi : Nat) (w : World) (hI : ItemsAt lo hi w ai items) (hP : VecsAt lo hi w (d + 1) ap parts) (hN : TextsAt lo hi w an names) (hC : TextsAt lo hi w ac cls) (hL : TextsAt lo hi w al levels) (hhi : hi ≤ w.heap.size)
  (li : items.length ≤ 40) (lp : parts.length ≤ 40) (ln : names.length ≤ 40) (lc : cls.length ≤ 1048576) (ll : levels.length ≤ 1048576) (hsp : ∀ i, i < parts.length → Small (d + 1) (parts.getD i noV)) :
  Calls Tryz.prog 49 #[.agg #[.int .i64 kk, .slice ai items.length ci, .slice ap parts.length cp, .slice an names.length cn, .slice ac cls.length cc, .slice al levels.length cl, .int .i64 0, .int .i64 0]] w (ResV (d + 1 + 1) (.mk kk (misI kk items) (misP kk parts) (misN names) cls levels 0 0) w) := by
 have CU := hd9 (fun (W : World) (hb : Below w.heap.size w W) => implCopyU (d + 1) kk items parts names cls levels 0 0 ai ap an ac al ci cp cn cc cl lo hi W (hI.below hb hhi) (hP.below hb hhi) (hN.below hb hhi) (hC.below hb hhi) (hL.below hb hhi) (Nat.le_trans hhi hb.size) (by omega) (by omega) (by omega) lc ll hsp)
 clear hI hP hN hC hL hsp
 go_enter Tryz.func49, Tryz.ntmps49
 go_wp2_with fail
 obtain ⟨w1, hw1⟩ : ∃ W, (w.alloc (.cells #[.int .i64 kk, .slice ai items.length ci, .slice ap parts.length cp, .slice an names.length cn, .slice ac cls.length cc, .slice al levels.length cl, .int .i64 0, .int .i64 0] 31)).alloc (.cells #[.int .i64 0, .slice none 0 0, .slice none 0 0, .slice none 0 0, .slice none 0 0, .slice none 0 0, .int .i64 0, .int .i64 0] 31) = W := ⟨_, rfl⟩
 have hs1 : (w.alloc (.cells #[.int .i64 kk, .slice ai items.length ci, .slice ap parts.length cp, .slice an names.length cn, .slice ac cls.length cc, .slice al levels.length cl, .int .i64 0, .int .i64 0] 31)).heap.size = w.heap.size + 1 := by simp
 have B1 := hd9 (show Below w.heap.size w w1 from hw1 ▸ ((below1 w _).alloc (by simp) _))
 have KA := hd9 (show w1.heap[w.heap.size]? = some (.cells #[.int .i64 kk, .slice ai items.length ci, .slice ap parts.length cp, .slice an names.length cn, .slice ac cls.length cc, .slice al levels.length cl, .int .i64 0, .int .i64 0] 31 (0, 0)) from hw1 ▸ blk_old (blk_new w _ rfl))
 have KR := hd9 (show w1.heap[(w.heap.size + 1)]? = some (.cells #[.int .i64 0, .slice none 0 0, .slice none 0 0, .slice none 0 0, .slice none 0 0, .slice none 0 0, .int .i64 0, .int .i64 0] 31 (0, 0)) from hw1 ▸ hs1 ▸ blk_new (w.alloc (.cells #[.int .i64 kk, .slice ai items.length ci, .slice ap parts.length cp, .slice an names.length cn, .slice ac cls.length cc, .slice al levels.length cl, .int .i64 0, .int .i64 0] 31)) (.cells #[.int .i64 0, .slice none 0 0, .slice none 0 0, .slice none 0 0, .slice none 0 0, .slice none 0 0, .int .i64 0, .int .i64 0] 31) rfl)
 have Z1 := hd9 (show w1.heap.size = w.heap.size + 1 + 1 from hw1 ▸ (by simp))
 rw [hw1]
 clear hw1 hs1
 obtain ⟨L0, hL0⟩ : ∃ L0, w1.heap.size = L0 := ⟨_, rfl⟩
 have LA := hd9 (show w.heap.size < L0 by have := Z1.out; omega)
 have LR := hd9 (show w.heap.size + 1 < L0 by have := Z1.out; omega)
 refine (CU.out _ B1.out).mono ?_
 rintro e w2 ⟨s1, n1, c1, s2, n2, c2, s3, n3, c3, s4, n4, c4, s5, n5, c5, X, rfl, hu, b'⟩
 rw [hL0] at hu
 have BW := hd9 (below_then B1.out b')
 have KA := hd9 (blk_below b' KA.out)
 have KR := hd9 (blk_below b' KR.out)
 have SL := hd9 (show L0 ≤ w2.heap.size from hL0 ▸ b'.size)
 have UF := hd9 (hu.free (b := w2.heap.size) (Nat.le_refl _))
 have U := hd9 hu
 clear hu b' CU B1 Z1 hL0
 obtain ⟨a0, a1, a2, a3, a4, a5, a6, a7⟩ := vec8 KA.out
 have hltA := (gs9.1 KA.out).1
 go_upto_region 2 with (fail)
 clear a0 a1 a2 a3 a4 a5 a6 a7 hltA
 obtain ⟨w3, hw3⟩ : ∃ W, w2.alloc (.cells #[.int .i64 kk, .slice s1 n1 c1, .slice s2 n2 c2, .slice s3 n3 c3, .slice s4 n4 c4, .slice s5 n5 c5, .int .i64 0, .int .i64 0] 31) = W := ⟨_, rfl⟩
 have KB := hd9 (show w3.heap[w2.heap.size]? = some (.cells #[.int .i64 kk, .slice s1 n1 c1, .slice s2 n2 c2, .slice s3 n3 c3, .slice s4 n4 c4, .slice s5 n5 c5, .int .i64 0, .int .i64 0] 31 (0, 0)) from hw3 ▸ blk_new w2 _ rfl)
 have KA := hd9 (show w3.heap[w.heap.size]? = some (.cells #[.int .i64 kk, .slice ai items.length ci, .slice ap parts.length cp, .slice an names.length cn, .slice ac cls.length cc, .slice al levels.length cl, .int .i64 0, .int .i64 0] 31 (0, 0)) from hw3 ▸ blk_old KA.out)
 have KR := hd9 (show w3.heap[(w.heap.size + 1)]? = some (.cells #[.int .i64 0, .slice none 0 0, .slice none 0 0, .slice none 0 0, .slice none 0 0, .slice none 0 0, .int .i64 0, .int .i64 0] 31 (0, 0)) from hw3 ▸ blk_old KR.out)
 have BW := hd9 (show Below w.heap.size w w3 from hw3 ▸ BW.out.alloc BW.out.size _)
 have U := hd9 (show Und L0 w3 _ _ _ _ _ _ _ _ _ _ _ _ from hw3 ▸ U.out.below (below1 w2 _))
 have LB := hd9 (show L0 ≤ w2.heap.size from SL.out)
 have SL := hd9 (Nat.le_trans SL.out (show w2.heap.size ≤ w3.heap.size from hw3 ▸ (by simp)))
 rw [hw3]
 clear hw3
 obtain ⟨b, hb⟩ : ∃ b, w2.heap.size = b := ⟨_, rfl⟩
 rw [hb] at KB UF LB ⊢
 clear hb
 by_cases h4 : kk = 4
 ·subst h4
  have EI := hd9 (misI_no (items := items) (show (4 : Int) = 0 ∨ (4 : Int) = 4 from .inr rfl))
  have EP := hd9 (misP_yes (parts := parts) (show (4 : Int) = 4 from rfl))
  obtain ⟨ie, hie⟩ := infoVs
  obtain ⟨vals, Fs, v1, v2, v3, v4, v5⟩ := (U.out.below (below1 w3 (.cells #[.int .i64 0, .slice none 0 0, .slice none 0 0, .slice none 0 0, .slice none 0 0, .slice none 0 0, .int .i64 0, .int .i64 0] 31))).p.ex
  have hwA := (gs9.1 KA.out).1
  have hwR := (gs9.1 KR.out).1
  have hwB := (gs9.1 KB.out).1
  obtain ⟨a0, a1, a2, a3, a4, a5, a6, a7⟩ := vec8 KA.out
  obtain ⟨k0, k1, k2, k3, k4, k5, k6, k7⟩ := vec8 KB.out
  obtain ⟨g0, g1, g2, g3, g4, g5, g6, g7⟩ := free8 KB.out
  have hbw := (gs9.1 KB.out).1
  go_wp2_with (at_builtin; go_loud (refine wpList_appM (P := Tryz.prog) rfl _ _ 29 rfl L0 ie _ 8 144 Tryz.underlying29 hie.1 hie.2.1 hie.2.2.1 hie.2.2.2 rfl (by decide) (.slice s2 n2 c2) parts.length (vals.flatMap cl8) rfl v3 _ 1 _ [.int .i64 0, .slice none 0 0, .slice none 0 0, .slice none 0 0, .slice none 0 0, .slice none 0 0, .int .i64 0, .int .i64 0] rfl (fun h => absurd h (by decide)) rfl (fun _ => ⟨_, rfl, block_cells (blk_new _ _ rfl)⟩) (by intro u hu; simp only [List.mem_cons, List.not_mem_nil, or_false] at hu; rcases hu with rfl | rfl | rfl | rfl | rfl | rfl | rfl | rfl <;> rfl) (by have := lp; unfold maxLen; omega) (by have := lp; omega) (Nat.le_trans SL.out (size1 _ _)) ?_))
  intro v5' w5 hO hg hM
  obtain ⟨s6, c6, rfl⟩ := row_form hO
  clear a0 a1 a2 a3 a4 a5 a6 a7 k0 k1 k2 k3 k4 k5 k6 k7 g0 g1 g2 g3 g4 g5 g6 g7 hbw
  obtain ⟨X2, hu2, hx2⟩ := U.out.snocQ (below1 w3 (.cells #[.int .i64 0, .slice none 0 0, .slice none 0 0, .slice none 0 0, .slice none 0 0, .slice none 0 0, .int .i64 0, .int .i64 0] 31)) v1 v2 v4 v5 (own_zeroD _ _ _ _) hO hM (fun g _ hlt hne => hg.block g hlt (fun e => hne e.symm)) hg.size SL.out
  have HU2 := hd9 hu2
  have HX2 := hd9 (show b ∉ X2 from fun e => by
   rcases hx2 b e with h | h
   ·exact UF.out.2.2.2.2.2 h
   ·omega)
  clear hu2 hx2 v1 v2 v3 v4 v5
  have FR := (fun g (hg : (Value.slice s2 n2 c2).ownBlock = some g) => U.out.pb.2 g hg)
  have KA := hd9 (show w5.heap[w.heap.size]? = some (.cells #[.int .i64 4, .slice ai items.length ci, .slice ap parts.length cp, .slice an names.length cn, .slice ac cls.length cc, .slice al levels.length cl, .int .i64 0, .int .i64 0] 31 (0, 0)) from (hg.block _ (Nat.lt_of_lt_of_le hwA (size1 _ _)) (fun e => by have := FR _ e.symm; have := LA.out; omega)).trans (blk_old KA.out))
  have KR := hd9 (show w5.heap[(w.heap.size + 1)]? = some (.cells #[.int .i64 0, .slice none 0 0, .slice none 0 0, .slice none 0 0, .slice none 0 0, .slice none 0 0, .int .i64 0, .int .i64 0] 31 (0, 0)) from (hg.block _ (Nat.lt_of_lt_of_le hwR (size1 _ _)) (fun e => by have := FR _ e.symm; have := LR.out; omega)).trans (blk_old KR.out))
  have KB := hd9 (show w5.heap[b]? = some (.cells #[.int .i64 4, .slice s1 n1 c1, .slice s2 n2 c2, .slice s3 n3 c3, .slice s4 n4 c4, .slice s5 n5 c5, .int .i64 0, .int .i64 0] 31 (0, 0)) from (hg.block _ (Nat.lt_of_lt_of_le hwB (size1 _ _)) (fun e => UF.out.2.1 e.symm)).trans (blk_old KB.out))
  have BW := hd9 (show Below w.heap.size w w5 from (BW.out.alloc BW.out.size _).grown hg (Nat.le_trans BW.out.size (size1 _ _)) (fun r hr => by have := FR _ hr; have := LA.out; omega))
  have U := HU2
  have UF := hd9 (show UFree b _ _ _ _ _ X2 from ⟨UF.out.1, ufree_of UF.out.2.1 hM (Nat.lt_of_lt_of_le hwB (size1 _ _)), UF.out.2.2.1, UF.out.2.2.2.1, UF.out.2.2.2.2.1, HX2.out⟩)
  have SL := hd9 (Nat.le_trans (Nat.le_trans SL.out (size1 _ _)) hg.size)
  clear FR hg hM hO hwA hwR hwB
  obtain ⟨a0, a1, a2, a3, a4, a5, a6, a7⟩ := vec8 KA.out
  obtain ⟨k0, k1, k2, k3, k4, k5, k6, k7⟩ := vec8 KB.out
  obtain ⟨g0, g1, g2, g3, g4, g5, g6, g7⟩ := free8 KB.out
  have hbw := (gs9.1 KB.out).1
  go_upto_region 6 with (fail)
  clear a0 a1 a2 a3 a4 a5 a6 a7 k0 k1 k2 k3 k4 k5 k6 k7 g0 g1 g2 g3 g4 g5 g6 g7 hbw
  obtain ⟨w5s, hw⟩ : ∃ W, w5.setCell ⟨b, 2, none⟩ (.slice s6 (parts.length + 1) c6) = W := ⟨_, rfl⟩
  have KB' := hd9 (show w5s.heap[b]? = some (.cells #[.int .i64 4, .slice s1 n1 c1, .slice s6 (parts.length + 1) c6, .slice s3 n3 c3, .slice s4 n4 c4, .slice s5 n5 c5, .int .i64 0, .int .i64 0] 31 (0, 0)) from hw ▸ Joins.block_setCell KB.out _)
  have KA := hd9 (show w5s.heap[w.heap.size]? = some (.cells #[.int .i64 4, .slice ai items.length ci, .slice ap parts.length cp, .slice an names.length cn, .slice ac cls.length cc, .slice al levels.length cl, .int .i64 0, .int .i64 0] 31 (0, 0)) from hw ▸ (Below.heap_setCell _ _ _ _ (show w.heap.size ≠ b by have := LB.out; have := LA.out; omega)).trans KA.out)
  have KR := hd9 (show w5s.heap[(w.heap.size + 1)]? = some (.cells #[.int .i64 0, .slice none 0 0, .slice none 0 0, .slice none 0 0, .slice none 0 0, .slice none 0 0, .int .i64 0, .int .i64 0] 31 (0, 0)) from hw ▸ (Below.heap_setCell _ _ _ _ (show (w.heap.size + 1) ≠ b by have := LB.out; have := LR.out; omega)).trans KR.out)
  have BW := hd9 (show Below w.heap.size w w5s from hw ▸ BW.out.setCell (p := ⟨b, 2, none⟩) (show w.heap.size ≤ b by have := LB.out; have := LA.out; omega) _)
  have U := hd9 (show Und L0 w5s _ _ _ _ _ _ _ _ _ _ _ _ from hw ▸ U.out.put2 UF.out)
  have SL := hd9 (Nat.le_trans SL.out (show w5.heap.size ≤ w5s.heap.size from hw ▸ (by simp)))
  rw [hw]
  clear hw KB
  have KB := KB'
  clear KB'
  by_cases hn0 : names.length = 0
  ·have hn0b : ((names.length : Nat) : Int) ≤ 0 := by omega
   have EN := hd9 (show misN names = names by rw [misN_nil hn0, List.eq_nil_of_length_eq_zero hn0])
   obtain ⟨a0, a1, a2, a3, a4, a5, a6, a7⟩ := vec8 KA.out
   go_upto_region 8 with (fail)
   clear a0 a1 a2 a3 a4 a5 a6 a7 hn0b
   have O := hd9 (by have h := U.out.own 4; exact h)
   have EV := hd9 (show (Vec.mk 4 (misI 4 items) (misP 4 parts) (misN names) cls levels 0 0) = _ from by rw [EI.out, EP.out, EN.out])
   rw [← EV.out] at O
   obtain ⟨k0, k1, k2, k3, k4, k5, k6, k7⟩ := vec8 KB.out
   obtain ⟨z0, z1, z2, z3, z4, z5, z6, z7⟩ := vec8 KR.out
   obtain ⟨f0, f1, f2, f3, f4, f5, f6, f7⟩ := free8 KR.out
   go_wp2
   exact vec_end rfl rfl rfl KR.out ⟨_, rfl, (O.out.put8 LR.out _ _ _ _ _ _ _ _).wide (by have := LA.out; omega) (by rw [put8_size]; exact Nat.le_refl _), put8_below BW.out (Nat.le_succ _)⟩
  ·have hn0b : 0 < ((names.length : Nat) : Int) := by omega
   have EN := hd9 (misN_some hn0)
   have hn0 := hn0b
   clear hn0b
   obtain ⟨ie, hie⟩ := infoSs
   have hwA := (gs9.1 KA.out).1
   have hwR := (gs9.1 KR.out).1
   have hwB := (gs9.1 KB.out).1
   obtain ⟨a0, a1, a2, a3, a4, a5, a6, a7⟩ := vec8 KA.out
   obtain ⟨k0, k1, k2, k3, k4, k5, k6, k7⟩ := vec8 KB.out
   obtain ⟨g0, g1, g2, g3, g4, g5, g6, g7⟩ := free8 KB.out
   have hbw := (gs9.1 KB.out).1
   go_wp2_with (at_builtin; go_loud (refine wpList_appM (P := Tryz.prog) rfl _ _ 24 rfl L0 ie _ 1 16 Tryz.underlying24 hie.1 hie.2.1 hie.2.2.1 hie.2.2.2 rfl (by decide) (.slice s3 n3 c3) names.length (names.map Value.string) rfl (U.out.below (below1 _ _)).n _ 1 _ [.string naB] rfl (fun h => absurd h (by decide)) rfl (fun _ => ⟨_, rfl, block_cells (blk_new _ _ rfl)⟩) (fun u hu => by obtain rfl := List.mem_singleton.1 hu; rfl) (by have := ln; unfold maxLen; omega) (by have := ln; omega) (Nat.le_trans SL.out (size1 _ _)) ?_))
   intro v8 w8 hO hg hM
   obtain ⟨s8, c8, rfl⟩ := row_form hO
   clear a0 a1 a2 a3 a4 a5 a6 a7 k0 k1 k2 k3 k4 k5 k6 k7 g0 g1 g2 g3 g4 g5 g6 g7 hbw
   have FR := (fun g (hg : (Value.slice s3 n3 c3).ownBlock = some g) => (U.out.n.lt g hg).1)
   have KA := hd9 (show w8.heap[w.heap.size]? = some (.cells #[.int .i64 4, .slice ai items.length ci, .slice ap parts.length cp, .slice an names.length cn, .slice ac cls.length cc, .slice al levels.length cl, .int .i64 0, .int .i64 0] 31 (0, 0)) from (hg.block _ (Nat.lt_of_lt_of_le hwA (size1 _ _)) (fun e => by have := FR _ e.symm; have := LA.out; omega)).trans (blk_old KA.out))
   have KR := hd9 (show w8.heap[(w.heap.size + 1)]? = some (.cells #[.int .i64 0, .slice none 0 0, .slice none 0 0, .slice none 0 0, .slice none 0 0, .slice none 0 0, .int .i64 0, .int .i64 0] 31 (0, 0)) from (hg.block _ (Nat.lt_of_lt_of_le hwR (size1 _ _)) (fun e => by have := FR _ e.symm; have := LR.out; omega)).trans (blk_old KR.out))
   have KB := hd9 (show w8.heap[b]? = some (.cells #[.int .i64 4, .slice s1 n1 c1, .slice s6 (parts.length + 1) c6, .slice s3 n3 c3, .slice s4 n4 c4, .slice s5 n5 c5, .int .i64 0, .int .i64 0] 31 (0, 0)) from (hg.block _ (Nat.lt_of_lt_of_le hwB (size1 _ _)) (fun e => UF.out.2.2.1 e.symm)).trans (blk_old KB.out))
   have BW := hd9 (show Below w.heap.size w w8 from (BW.out.alloc BW.out.size _).grown hg (Nat.le_trans BW.out.size (size1 _ _)) (fun r hr => by have := FR _ hr; have := LA.out; omega))
   have U := hd9 ((U.out.below (below1 _ _)).setN (names' := names ++ [naB]) (by rw [List.length_append, List.map_append]; exact hO) hM (fun g _ hlt hne => hg.block g hlt (fun e => hne e.symm)) hg.size)
   have UF := hd9 (show UFree b _ _ _ _ _ _ from ⟨UF.out.1, UF.out.2.1, ufree_of UF.out.2.2.1 hM (Nat.lt_of_lt_of_le hwB (size1 _ _)), UF.out.2.2.2⟩)
   have SL := hd9 (Nat.le_trans (Nat.le_trans SL.out (size1 _ _)) hg.size)
   clear FR hg hM hO hwA hwR hwB
   obtain ⟨a0, a1, a2, a3, a4, a5, a6, a7⟩ := vec8 KA.out
   obtain ⟨k0, k1, k2, k3, k4, k5, k6, k7⟩ := vec8 KB.out
   obtain ⟨g0, g1, g2, g3, g4, g5, g6, g7⟩ := free8 KB.out
   have hbw := (gs9.1 KB.out).1
   go_upto_region 8 with (fail)
   clear a0 a1 a2 a3 a4 a5 a6 a7 k0 k1 k2 k3 k4 k5 k6 k7 g0 g1 g2 g3 g4 g5 g6 g7 hbw
   obtain ⟨w8s, hw⟩ : ∃ W, w8.setCell ⟨b, 3, none⟩ (.slice s8 (names.length + 1) c8) = W := ⟨_, rfl⟩
   have KB' := hd9 (show w8s.heap[b]? = some (.cells #[.int .i64 4, .slice s1 n1 c1, .slice s6 (parts.length + 1) c6, .slice s8 (names.length + 1) c8, .slice s4 n4 c4, .slice s5 n5 c5, .int .i64 0, .int .i64 0] 31 (0, 0)) from hw ▸ Joins.block_setCell KB.out _)
   have KA := hd9 (show w8s.heap[w.heap.size]? = some (.cells #[.int .i64 4, .slice ai items.length ci, .slice ap parts.length cp, .slice an names.length cn, .slice ac cls.length cc, .slice al levels.length cl, .int .i64 0, .int .i64 0] 31 (0, 0)) from hw ▸ (Below.heap_setCell _ _ _ _ (show w.heap.size ≠ b by have := LB.out; have := LA.out; omega)).trans KA.out)
   have KR := hd9 (show w8s.heap[(w.heap.size + 1)]? = some (.cells #[.int .i64 0, .slice none 0 0, .slice none 0 0, .slice none 0 0, .slice none 0 0, .slice none 0 0, .int .i64 0, .int .i64 0] 31 (0, 0)) from hw ▸ (Below.heap_setCell _ _ _ _ (show (w.heap.size + 1) ≠ b by have := LB.out; have := LR.out; omega)).trans KR.out)
   have BW := hd9 (show Below w.heap.size w w8s from hw ▸ BW.out.setCell (p := ⟨b, 3, none⟩) (show w.heap.size ≤ b by have := LB.out; have := LA.out; omega) _)
   have U := hd9 (show Und L0 w8s _ _ _ _ _ _ _ _ _ _ _ _ from hw ▸ U.out.put2 UF.out)
   have SL := hd9 (Nat.le_trans SL.out (show w8.heap.size ≤ w8s.heap.size from hw ▸ (by simp)))
   rw [hw]
   clear hw KB
   have KB := KB'
   clear KB'
   have O := hd9 (by have h := U.out.own 4; exact h)
   have EV := hd9 (show (Vec.mk 4 (misI 4 items) (misP 4 parts) (misN names) cls levels 0 0) = _ from by rw [EI.out, EP.out, EN.out])
   rw [← EV.out] at O
   obtain ⟨k0, k1, k2, k3, k4, k5, k6, k7⟩ := vec8 KB.out
   obtain ⟨z0, z1, z2, z3, z4, z5, z6, z7⟩ := vec8 KR.out
   obtain ⟨f0, f1, f2, f3, f4, f5, f6, f7⟩ := free8 KR.out
   go_wp2
   exact vec_end rfl rfl rfl KR.out ⟨_, rfl, (O.out.put8 LR.out _ _ _ _ _ _ _ _).wide (by have := LA.out; omega) (by rw [put8_size]; exact Nat.le_refl _), put8_below BW.out (Nat.le_succ _)⟩
 ·have h4b : (kk == 4) = false := beq_eq_false_iff_ne.2 h4
  have EP := hd9 (misP_no (parts := parts) h4)
  by_cases h0 : kk = 0
  ·have EI := hd9 (misI_no (items := items) (show kk = 0 ∨ kk = 4 from .inl h0))
   have h0b : (kk == 0) = true := beq_iff_eq.2 h0
   have h0c : (kk != 0) = false := by simp [h0]
   have H0 := hd9 h0
   clear h4 h0
   obtain ⟨a0, a1, a2, a3, a4, a5, a6, a7⟩ := vec8 KA.out
   go_upto_region 6 with (fail)
   clear a0 a1 a2 a3 a4 a5 a6 a7
   by_cases hn0 : names.length = 0
   ·have hn0b : ((names.length : Nat) : Int) ≤ 0 := by omega
    have EN := hd9 (show misN names = names by rw [misN_nil hn0, List.eq_nil_of_length_eq_zero hn0])
    obtain ⟨a0, a1, a2, a3, a4, a5, a6, a7⟩ := vec8 KA.out
    go_upto_region 8 with (fail)
    clear a0 a1 a2 a3 a4 a5 a6 a7 hn0b
    have O := hd9 (by have h := U.out.own kk; exact h)
    have EV := hd9 (show (Vec.mk kk (misI kk items) (misP kk parts) (misN names) cls levels 0 0) = _ from by rw [EI.out, EP.out, EN.out])
    rw [← EV.out] at O
    obtain ⟨k0, k1, k2, k3, k4, k5, k6, k7⟩ := vec8 KB.out
    obtain ⟨z0, z1, z2, z3, z4, z5, z6, z7⟩ := vec8 KR.out
    obtain ⟨f0, f1, f2, f3, f4, f5, f6, f7⟩ := free8 KR.out
    go_wp2
    exact vec_end rfl rfl rfl KR.out ⟨_, rfl, (O.out.put8 LR.out _ _ _ _ _ _ _ _).wide (by have := LA.out; omega) (by rw [put8_size]; exact Nat.le_refl _), put8_below BW.out (Nat.le_succ _)⟩
   ·have hn0b : 0 < ((names.length : Nat) : Int) := by omega
    have EN := hd9 (misN_some hn0)
    have hn0 := hn0b
    clear hn0b
    obtain ⟨ie, hie⟩ := infoSs
    have hwA := (gs9.1 KA.out).1
    have hwR := (gs9.1 KR.out).1
    have hwB := (gs9.1 KB.out).1
    obtain ⟨a0, a1, a2, a3, a4, a5, a6, a7⟩ := vec8 KA.out
    obtain ⟨k0, k1, k2, k3, k4, k5, k6, k7⟩ := vec8 KB.out
    obtain ⟨g0, g1, g2, g3, g4, g5, g6, g7⟩ := free8 KB.out
    have hbw := (gs9.1 KB.out).1
    go_wp2_with (at_builtin; go_loud (refine wpList_appM (P := Tryz.prog) rfl _ _ 24 rfl L0 ie _ 1 16 Tryz.underlying24 hie.1 hie.2.1 hie.2.2.1 hie.2.2.2 rfl (by decide) (.slice s3 n3 c3) names.length (names.map Value.string) rfl (U.out.below (below1 _ _)).n _ 1 _ [.string naB] rfl (fun h => absurd h (by decide)) rfl (fun _ => ⟨_, rfl, block_cells (blk_new _ _ rfl)⟩) (fun u hu => by obtain rfl := List.mem_singleton.1 hu; rfl) (by have := ln; unfold maxLen; omega) (by have := ln; omega) (Nat.le_trans SL.out (size1 _ _)) ?_))
    intro v8 w8 hO hg hM
    obtain ⟨s8, c8, rfl⟩ := row_form hO
    clear a0 a1 a2 a3 a4 a5 a6 a7 k0 k1 k2 k3 k4 k5 k6 k7 g0 g1 g2 g3 g4 g5 g6 g7 hbw
    have FR := (fun g (hg : (Value.slice s3 n3 c3).ownBlock = some g) => (U.out.n.lt g hg).1)
    have KA := hd9 (show w8.heap[w.heap.size]? = some (.cells #[.int .i64 kk, .slice ai items.length ci, .slice ap parts.length cp, .slice an names.length cn, .slice ac cls.length cc, .slice al levels.length cl, .int .i64 0, .int .i64 0] 31 (0, 0)) from (hg.block _ (Nat.lt_of_lt_of_le hwA (size1 _ _)) (fun e => by have := FR _ e.symm; have := LA.out; omega)).trans (blk_old KA.out))
    have KR := hd9 (show w8.heap[(w.heap.size + 1)]? = some (.cells #[.int .i64 0, .slice none 0 0, .slice none 0 0, .slice none 0 0, .slice none 0 0, .slice none 0 0, .int .i64 0, .int .i64 0] 31 (0, 0)) from (hg.block _ (Nat.lt_of_lt_of_le hwR (size1 _ _)) (fun e => by have := FR _ e.symm; have := LR.out; omega)).trans (blk_old KR.out))
    have KB := hd9 (show w8.heap[b]? = some (.cells #[.int .i64 kk, .slice s1 n1 c1, .slice s2 n2 c2, .slice s3 n3 c3, .slice s4 n4 c4, .slice s5 n5 c5, .int .i64 0, .int .i64 0] 31 (0, 0)) from (hg.block _ (Nat.lt_of_lt_of_le hwB (size1 _ _)) (fun e => UF.out.2.2.1 e.symm)).trans (blk_old KB.out))
    have BW := hd9 (show Below w.heap.size w w8 from (BW.out.alloc BW.out.size _).grown hg (Nat.le_trans BW.out.size (size1 _ _)) (fun r hr => by have := FR _ hr; have := LA.out; omega))
    have U := hd9 ((U.out.below (below1 _ _)).setN (names' := names ++ [naB]) (by rw [List.length_append, List.map_append]; exact hO) hM (fun g _ hlt hne => hg.block g hlt (fun e => hne e.symm)) hg.size)
    have UF := hd9 (show UFree b _ _ _ _ _ _ from ⟨UF.out.1, UF.out.2.1, ufree_of UF.out.2.2.1 hM (Nat.lt_of_lt_of_le hwB (size1 _ _)), UF.out.2.2.2⟩)
    have SL := hd9 (Nat.le_trans (Nat.le_trans SL.out (size1 _ _)) hg.size)
    clear FR hg hM hO hwA hwR hwB
    obtain ⟨a0, a1, a2, a3, a4, a5, a6, a7⟩ := vec8 KA.out
    obtain ⟨k0, k1, k2, k3, k4, k5, k6, k7⟩ := vec8 KB.out
    obtain ⟨g0, g1, g2, g3, g4, g5, g6, g7⟩ := free8 KB.out
    have hbw := (gs9.1 KB.out).1
    go_upto_region 8 with (fail)
    clear a0 a1 a2 a3 a4 a5 a6 a7 k0 k1 k2 k3 k4 k5 k6 k7 g0 g1 g2 g3 g4 g5 g6 g7 hbw
    obtain ⟨w8s, hw⟩ : ∃ W, w8.setCell ⟨b, 3, none⟩ (.slice s8 (names.length + 1) c8) = W := ⟨_, rfl⟩
    have KB' := hd9 (show w8s.heap[b]? = some (.cells #[.int .i64 kk, .slice s1 n1 c1, .slice s2 n2 c2, .slice s8 (names.length + 1) c8, .slice s4 n4 c4, .slice s5 n5 c5, .int .i64 0, .int .i64 0] 31 (0, 0)) from hw ▸ Joins.block_setCell KB.out _)
    have KA := hd9 (show w8s.heap[w.heap.size]? = some (.cells #[.int .i64 kk, .slice ai items.length ci, .slice ap parts.length cp, .slice an names.length cn, .slice ac cls.length cc, .slice al levels.length cl, .int .i64 0, .int .i64 0] 31 (0, 0)) from hw ▸ (Below.heap_setCell _ _ _ _ (show w.heap.size ≠ b by have := LB.out; have := LA.out; omega)).trans KA.out)
    have KR := hd9 (show w8s.heap[(w.heap.size + 1)]? = some (.cells #[.int .i64 0, .slice none 0 0, .slice none 0 0, .slice none 0 0, .slice none 0 0, .slice none 0 0, .int .i64 0, .int .i64 0] 31 (0, 0)) from hw ▸ (Below.heap_setCell _ _ _ _ (show (w.heap.size + 1) ≠ b by have := LB.out; have := LR.out; omega)).trans KR.out)
    have BW := hd9 (show Below w.heap.size w w8s from hw ▸ BW.out.setCell (p := ⟨b, 3, none⟩) (show w.heap.size ≤ b by have := LB.out; have := LA.out; omega) _)
    have U := hd9 (show Und L0 w8s _ _ _ _ _ _ _ _ _ _ _ _ from hw ▸ U.out.put2 UF.out)
    have SL := hd9 (Nat.le_trans SL.out (show w8.heap.size ≤ w8s.heap.size from hw ▸ (by simp)))
    rw [hw]
    clear hw KB
    have KB := KB'
    clear KB'
    have O := hd9 (by have h := U.out.own kk; exact h)
    have EV := hd9 (show (Vec.mk kk (misI kk items) (misP kk parts) (misN names) cls levels 0 0) = _ from by rw [EI.out, EP.out, EN.out])
    rw [← EV.out] at O
    obtain ⟨k0, k1, k2, k3, k4, k5, k6, k7⟩ := vec8 KB.out
    obtain ⟨z0, z1, z2, z3, z4, z5, z6, z7⟩ := vec8 KR.out
    obtain ⟨f0, f1, f2, f3, f4, f5, f6, f7⟩ := free8 KR.out
    go_wp2
    exact vec_end rfl rfl rfl KR.out ⟨_, rfl, (O.out.put8 LR.out _ _ _ _ _ _ _ _).wide (by have := LA.out; omega) (by rw [put8_size]; exact Nat.le_refl _), put8_below BW.out (Nat.le_succ _)⟩
  ·have h0b : (kk == 0) = false := beq_eq_false_iff_ne.2 h0
   have h0c : (kk != 0) = true := by simp [h0]
   have EI := hd9 (misI_yes (items := items) (show ¬ (kk = 0 ∨ kk = 4) from fun e => e.elim h0 h4))
   clear h4 h0
   obtain ⟨ie, hie⟩ := infoIs
   have hwA := (gs9.1 KA.out).1
   have hwR := (gs9.1 KR.out).1
   have hwB := (gs9.1 KB.out).1
   obtain ⟨a0, a1, a2, a3, a4, a5, a6, a7⟩ := vec8 KA.out
   obtain ⟨k0, k1, k2, k3, k4, k5, k6, k7⟩ := vec8 KB.out
   obtain ⟨g0, g1, g2, g3, g4, g5, g6, g7⟩ := free8 KB.out
   have hbw := (gs9.1 KB.out).1
   go_wp2_with (at_builtin; go_loud (refine wpList_appM (P := Tryz.prog) rfl _ _ 28 rfl L0 ie _ 3 32 Tryz.underlying28 hie.1 hie.2.1 hie.2.2.1 hie.2.2.2 rfl (by decide) (.slice s1 n1 c1) items.length (itCells items) rfl (U.out.below (below1 _ _)).i _ 1 _ [.int .i64 0, .int .i64 0, .string ⟨#[]⟩] rfl (fun h => absurd h (by decide)) rfl (fun _ => ⟨_, rfl, block_cells (blk_new _ _ rfl)⟩) (by intro u hu; simp only [List.mem_cons, List.not_mem_nil, or_false] at hu; rcases hu with rfl | rfl | rfl <;> rfl) (by have := li; unfold maxLen; omega) (by have := li; omega) (Nat.le_trans SL.out (size1 _ _)) ?_))
   intro v5' w5 hO hg hM
   obtain ⟨s6, c6, rfl⟩ := row_form hO
   clear a0 a1 a2 a3 a4 a5 a6 a7 k0 k1 k2 k3 k4 k5 k6 k7 g0 g1 g2 g3 g4 g5 g6 g7 hbw
   have FR := (fun g (hg : (Value.slice s1 n1 c1).ownBlock = some g) => (U.out.i.lt g hg).1)
   have KA := hd9 (show w5.heap[w.heap.size]? = some (.cells #[.int .i64 kk, .slice ai items.length ci, .slice ap parts.length cp, .slice an names.length cn, .slice ac cls.length cc, .slice al levels.length cl, .int .i64 0, .int .i64 0] 31 (0, 0)) from (hg.block _ (Nat.lt_of_lt_of_le hwA (size1 _ _)) (fun e => by have := FR _ e.symm; have := LA.out; omega)).trans (blk_old KA.out))
   have KR := hd9 (show w5.heap[(w.heap.size + 1)]? = some (.cells #[.int .i64 0, .slice none 0 0, .slice none 0 0, .slice none 0 0, .slice none 0 0, .slice none 0 0, .int .i64 0, .int .i64 0] 31 (0, 0)) from (hg.block _ (Nat.lt_of_lt_of_le hwR (size1 _ _)) (fun e => by have := FR _ e.symm; have := LR.out; omega)).trans (blk_old KR.out))
   have KB := hd9 (show w5.heap[b]? = some (.cells #[.int .i64 kk, .slice s1 n1 c1, .slice s2 n2 c2, .slice s3 n3 c3, .slice s4 n4 c4, .slice s5 n5 c5, .int .i64 0, .int .i64 0] 31 (0, 0)) from (hg.block _ (Nat.lt_of_lt_of_le hwB (size1 _ _)) (fun e => UF.out.1 e.symm)).trans (blk_old KB.out))
   have BW := hd9 (show Below w.heap.size w w5 from (BW.out.alloc BW.out.size _).grown hg (Nat.le_trans BW.out.size (size1 _ _)) (fun r hr => by have := FR _ hr; have := LA.out; omega))
   have U := hd9 ((U.out.below (below1 _ _)).setI (items' := items ++ [noI]) (by rw [List.length_append, itCells_app]; exact hO) hM (fun g _ hlt hne => hg.block g hlt (fun e => hne e.symm)) hg.size)
   have UF := hd9 (show UFree b _ _ _ _ _ _ from ⟨ufree_of UF.out.1 hM (Nat.lt_of_lt_of_le hwB (size1 _ _)), UF.out.2⟩)
   have SL := hd9 (Nat.le_trans (Nat.le_trans SL.out (size1 _ _)) hg.size)
   clear FR hg hM hO hwA hwR hwB
   obtain ⟨a0, a1, a2, a3, a4, a5, a6, a7⟩ := vec8 KA.out
   obtain ⟨k0, k1, k2, k3, k4, k5, k6, k7⟩ := vec8 KB.out
   obtain ⟨g0, g1, g2, g3, g4, g5, g6, g7⟩ := free8 KB.out
   have hbw := (gs9.1 KB.out).1
   go_upto_region 6 with (fail)
   clear a0 a1 a2 a3 a4 a5 a6 a7 k0 k1 k2 k3 k4 k5 k6 k7 g0 g1 g2 g3 g4 g5 g6 g7 hbw
   obtain ⟨w5s, hw⟩ : ∃ W, w5.setCell ⟨b, 1, none⟩ (.slice s6 (items.length + 1) c6) = W := ⟨_, rfl⟩
   have KB' := hd9 (show w5s.heap[b]? = some (.cells #[.int .i64 kk, .slice s6 (items.length + 1) c6, .slice s2 n2 c2, .slice s3 n3 c3, .slice s4 n4 c4, .slice s5 n5 c5, .int .i64 0, .int .i64 0] 31 (0, 0)) from hw ▸ Joins.block_setCell KB.out _)
   have KA := hd9 (show w5s.heap[w.heap.size]? = some (.cells #[.int .i64 kk, .slice ai items.length ci, .slice ap parts.length cp, .slice an names.length cn, .slice ac cls.length cc, .slice al levels.length cl, .int .i64 0, .int .i64 0] 31 (0, 0)) from hw ▸ (Below.heap_setCell _ _ _ _ (show w.heap.size ≠ b by have := LB.out; have := LA.out; omega)).trans KA.out)
   have KR := hd9 (show w5s.heap[(w.heap.size + 1)]? = some (.cells #[.int .i64 0, .slice none 0 0, .slice none 0 0, .slice none 0 0, .slice none 0 0, .slice none 0 0, .int .i64 0, .int .i64 0] 31 (0, 0)) from hw ▸ (Below.heap_setCell _ _ _ _ (show (w.heap.size + 1) ≠ b by have := LB.out; have := LR.out; omega)).trans KR.out)
   have BW := hd9 (show Below w.heap.size w w5s from hw ▸ BW.out.setCell (p := ⟨b, 1, none⟩) (show w.heap.size ≤ b by have := LB.out; have := LA.out; omega) _)
   have U := hd9 (show Und L0 w5s _ _ _ _ _ _ _ _ _ _ _ _ from hw ▸ U.out.put2 UF.out)
   have SL := hd9 (Nat.le_trans SL.out (show w5.heap.size ≤ w5s.heap.size from hw ▸ (by simp)))
   rw [hw]
   clear hw KB
   have KB := KB'
   clear KB'
   by_cases hn0 : names.length = 0
   ·have hn0b : ((names.length : Nat) : Int) ≤ 0 := by omega
    have EN := hd9 (show misN names = names by rw [misN_nil hn0, List.eq_nil_of_length_eq_zero hn0])
    obtain ⟨a0, a1, a2, a3, a4, a5, a6, a7⟩ := vec8 KA.out
    go_upto_region 8 with (fail)
    clear a0 a1 a2 a3 a4 a5 a6 a7 hn0b
    have O := hd9 (by have h := U.out.own kk; exact h)
    have EV := hd9 (show (Vec.mk kk (misI kk items) (misP kk parts) (misN names) cls levels 0 0) = _ from by rw [EI.out, EP.out, EN.out])
    rw [← EV.out] at O
    obtain ⟨k0, k1, k2, k3, k4, k5, k6, k7⟩ := vec8 KB.out
    obtain ⟨z0, z1, z2, z3, z4, z5, z6, z7⟩ := vec8 KR.out
    obtain ⟨f0, f1, f2, f3, f4, f5, f6, f7⟩ := free8 KR.out
    go_wp2
    exact vec_end rfl rfl rfl KR.out ⟨_, rfl, (O.out.put8 LR.out _ _ _ _ _ _ _ _).wide (by have := LA.out; omega) (by rw [put8_size]; exact Nat.le_refl _), put8_below BW.out (Nat.le_succ _)⟩
   ·have hn0b : 0 < ((names.length : Nat) : Int) := by omega
    have EN := hd9 (misN_some hn0)
    have hn0 := hn0b
    clear hn0b
    obtain ⟨ie, hie⟩ := infoSs
    have hwA := (gs9.1 KA.out).1
    have hwR := (gs9.1 KR.out).1
    have hwB := (gs9.1 KB.out).1
    obtain ⟨a0, a1, a2, a3, a4, a5, a6, a7⟩ := vec8 KA.out
    obtain ⟨k0, k1, k2, k3, k4, k5, k6, k7⟩ := vec8 KB.out
    obtain ⟨g0, g1, g2, g3, g4, g5, g6, g7⟩ := free8 KB.out
    have hbw := (gs9.1 KB.out).1
    go_wp2_with (at_builtin; go_loud (refine wpList_appM (P := Tryz.prog) rfl _ _ 24 rfl L0 ie _ 1 16 Tryz.underlying24 hie.1 hie.2.1 hie.2.2.1 hie.2.2.2 rfl (by decide) (.slice s3 n3 c3) names.length (names.map Value.string) rfl (U.out.below (below1 _ _)).n _ 1 _ [.string naB] rfl (fun h => absurd h (by decide)) rfl (fun _ => ⟨_, rfl, block_cells (blk_new _ _ rfl)⟩) (fun u hu => by obtain rfl := List.mem_singleton.1 hu; rfl) (by have := ln; unfold maxLen; omega) (by have := ln; omega) (Nat.le_trans SL.out (size1 _ _)) ?_))
    intro v8 w8 hO hg hM
    obtain ⟨s8, c8, rfl⟩ := row_form hO
    clear a0 a1 a2 a3 a4 a5 a6 a7 k0 k1 k2 k3 k4 k5 k6 k7 g0 g1 g2 g3 g4 g5 g6 g7 hbw
    have FR := (fun g (hg : (Value.slice s3 n3 c3).ownBlock = some g) => (U.out.n.lt g hg).1)
    have KA := hd9 (show w8.heap[w.heap.size]? = some (.cells #[.int .i64 kk, .slice ai items.length ci, .slice ap parts.length cp, .slice an names.length cn, .slice ac cls.length cc, .slice al levels.length cl, .int .i64 0, .int .i64 0] 31 (0, 0)) from (hg.block _ (Nat.lt_of_lt_of_le hwA (size1 _ _)) (fun e => by have := FR _ e.symm; have := LA.out; omega)).trans (blk_old KA.out))
    have KR := hd9 (show w8.heap[(w.heap.size + 1)]? = some (.cells #[.int .i64 0, .slice none 0 0, .slice none 0 0, .slice none 0 0, .slice none 0 0, .slice none 0 0, .int .i64 0, .int .i64 0] 31 (0, 0)) from (hg.block _ (Nat.lt_of_lt_of_le hwR (size1 _ _)) (fun e => by have := FR _ e.symm; have := LR.out; omega)).trans (blk_old KR.out))
    have KB := hd9 (show w8.heap[b]? = some (.cells #[.int .i64 kk, .slice s6 (items.length + 1) c6, .slice s2 n2 c2, .slice s3 n3 c3, .slice s4 n4 c4, .slice s5 n5 c5, .int .i64 0, .int .i64 0] 31 (0, 0)) from (hg.block _ (Nat.lt_of_lt_of_le hwB (size1 _ _)) (fun e => UF.out.2.2.1 e.symm)).trans (blk_old KB.out))
    have BW := hd9 (show Below w.heap.size w w8 from (BW.out.alloc BW.out.size _).grown hg (Nat.le_trans BW.out.size (size1 _ _)) (fun r hr => by have := FR _ hr; have := LA.out; omega))
    have U := hd9 ((U.out.below (below1 _ _)).setN (names' := names ++ [naB]) (by rw [List.length_append, List.map_append]; exact hO) hM (fun g _ hlt hne => hg.block g hlt (fun e => hne e.symm)) hg.size)
    have UF := hd9 (show UFree b _ _ _ _ _ _ from ⟨UF.out.1, UF.out.2.1, ufree_of UF.out.2.2.1 hM (Nat.lt_of_lt_of_le hwB (size1 _ _)), UF.out.2.2.2⟩)
    have SL := hd9 (Nat.le_trans (Nat.le_trans SL.out (size1 _ _)) hg.size)
    clear FR hg hM hO hwA hwR hwB
    obtain ⟨a0, a1, a2, a3, a4, a5, a6, a7⟩ := vec8 KA.out
    obtain ⟨k0, k1, k2, k3, k4, k5, k6, k7⟩ := vec8 KB.out
    obtain ⟨g0, g1, g2, g3, g4, g5, g6, g7⟩ := free8 KB.out
    have hbw := (gs9.1 KB.out).1
    go_upto_region 8 with (fail)
    clear a0 a1 a2 a3 a4 a5 a6 a7 k0 k1 k2 k3 k4 k5 k6 k7 g0 g1 g2 g3 g4 g5 g6 g7 hbw
    obtain ⟨w8s, hw⟩ : ∃ W, w8.setCell ⟨b, 3, none⟩ (.slice s8 (names.length + 1) c8) = W := ⟨_, rfl⟩
    have KB' := hd9 (show w8s.heap[b]? = some (.cells #[.int .i64 kk, .slice s6 (items.length + 1) c6, .slice s2 n2 c2, .slice s8 (names.length + 1) c8, .slice s4 n4 c4, .slice s5 n5 c5, .int .i64 0, .int .i64 0] 31 (0, 0)) from hw ▸ Joins.block_setCell KB.out _)
    have KA := hd9 (show w8s.heap[w.heap.size]? = some (.cells #[.int .i64 kk, .slice ai items.length ci, .slice ap parts.length cp, .slice an names.length cn, .slice ac cls.length cc, .slice al levels.length cl, .int .i64 0, .int .i64 0] 31 (0, 0)) from hw ▸ (Below.heap_setCell _ _ _ _ (show w.heap.size ≠ b by have := LB.out; have := LA.out; omega)).trans KA.out)
    have KR := hd9 (show w8s.heap[(w.heap.size + 1)]? = some (.cells #[.int .i64 0, .slice none 0 0, .slice none 0 0, .slice none 0 0, .slice none 0 0, .slice none 0 0, .int .i64 0, .int .i64 0] 31 (0, 0)) from hw ▸ (Below.heap_setCell _ _ _ _ (show (w.heap.size + 1) ≠ b by have := LB.out; have := LR.out; omega)).trans KR.out)
    have BW := hd9 (show Below w.heap.size w w8s from hw ▸ BW.out.setCell (p := ⟨b, 3, none⟩) (show w.heap.size ≤ b by have := LB.out; have := LA.out; omega) _)
    have U := hd9 (show Und L0 w8s _ _ _ _ _ _ _ _ _ _ _ _ from hw ▸ U.out.put2 UF.out)
    have SL := hd9 (Nat.le_trans SL.out (show w8.heap.size ≤ w8s.heap.size from hw ▸ (by simp)))
    rw [hw]
    clear hw KB
    have KB := KB'
    clear KB'
    have O := hd9 (by have h := U.out.own kk; exact h)
    have EV := hd9 (show (Vec.mk kk (misI kk items) (misP kk parts) (misN names) cls levels 0 0) = _ from by rw [EI.out, EP.out, EN.out])
    rw [← EV.out] at O
    obtain ⟨k0, k1, k2, k3, k4, k5, k6, k7⟩ := vec8 KB.out
    obtain ⟨z0, z1, z2, z3, z4, z5, z6, z7⟩ := vec8 KR.out
    obtain ⟨f0, f1, f2, f3, f4, f5, f6, f7⟩ := free8 KR.out
    go_wp2
    exact vec_end rfl rfl rfl KR.out ⟨_, rfl, (O.out.put8 LR.out _ _ _ _ _ _ _ _).wide (by have := LA.out; omega) (by rw [put8_size]; exact Nat.le_refl _), put8_below BW.out (Nat.le_succ _)⟩
end Go.Proofs.YteoalkjngkcheaaGreat

/- FieldOf as data. -/
namespace Go.Proofs.YteoalkjngkcheaaGreat
open Go.RowKit
set_option maxRecDepth 100000
set_option linter.unusedVariables false

def FldK (v : Vec) : Prop := kindV v = 0 ∨ kindV v = 4
/-- The part at a place, or NULL. -/
def partAt (parts : List Vec) (z : Int) : Vec := if z < 0 then noV else parts.getD z.toNat noV
noncomputable def fldV (s : ByteArray) (v : Vec) : Vec := bif bB (ValidV v ∧ FldK v) then (match v with | .mk _ _ parts names _ _ _ _ => partAt parts (fldZ s (fun i => names.getD i ⟨#[]⟩) names.length)) else noV
noncomputable def fldS (v : Vec) : ByteArray := bif bB (ValidV v) then (bif bB (FldK v) then ⟨#[]⟩ else nltB) else badB
theorem texts_strs {lo hi : Nat} {w : World} {a : Option Addr} {l : List ByteArray} (h : TextsAt lo hi w a l) : StrsAt hi w a l.length (fun i => l.getD i ⟨#[]⟩) := fun i hi' => by
 obtain ⟨b, off, e, _, h1, h2⟩ := h i (l.getD i ⟨#[]⟩) (by simp [List.getD_eq_getElem?_getD, hi'])
 exact ⟨b, off, e, h1, h2⟩
end Go.Proofs.YteoalkjngkcheaaGreat

/- elementAt of a list. -/
namespace Go.Proofs.YteoalkjngkcheaaGreat
open Go.RowKit
set_option maxRecDepth 100000
set_option linter.unusedVariables false

end Go.Proofs.YteoalkjngkcheaaGreat

/- Ints reversed in place. -/
namespace Go.Proofs.YteoalkjngkcheaaGreat
open Go.RowKit
set_option maxRecDepth 100000
set_option linter.unusedVariables false

/-- The ints of a row of its own: its block. -/
theorem IntZ.parts {w0 w : World} {l : List Int} {v : Value} (h : IntZ w0 w l v) (hl : l.length ≠ 0) : ∃ g c, v = .slice (some ⟨g, 0, none⟩) l.length c ∧ w0.heap.size ≤ g ∧ g < w.heap.size := by
 obtain ⟨_, ⟨_, h0⟩ | ⟨g, cap, cur, e, hB, hg, _⟩⟩ := h.row
 ·exact absurd h0 hl
 ·exact ⟨g, cap, e, hB, (gs9.1 hg).1⟩
theorem intC_at {l : List Int} {k : Nat} (hk : k < l.length) : (intC l)[k]? = some (.int .i64 (l.getD k 0)) := by
 unfold intC
 simp [List.getD_eq_getElem?_getD, List.getElem?_map, List.getElem?_eq_getElem hk]
theorem IntZ.cell {w0 w : World} {l : List Int} {g n c k : Nat} (h : IntZ w0 w l (.slice (some ⟨g, 0, none⟩) n c)) (hk : k < l.length) : w.cell? ⟨g, k, none⟩ = some (.int .i64 (l.getD k 0)) ∧ w.frozen? ⟨g, k, none⟩ = false := by
 obtain ⟨_, ⟨e, _⟩ | ⟨g', cap, cur, e, hB, hg, hc, hm, hs, ht⟩⟩ := h.row
 ·cases e
 ·simp only [Value.slice.injEq, Option.some.injEq, Addr.mk.injEq, and_true] at e
  obtain ⟨rfl, _, _⟩ := e
  refine ⟨cellOf hg ?_, freeOf hg⟩
  rw [← Array.getElem?_toList, ← intC_at hk, ← ht, List.getElem?_take, if_pos (by omega)]
theorem IntZ.set {w0 w : World} {l : List Int} {g n c k : Nat} {z : Int} (h : IntZ w0 w l (.slice (some ⟨g, 0, none⟩) n c)) (hk : k < l.length) : IntZ w0 (w.setCell ⟨g, k, none⟩ (.int .i64 z)) (l.set k z) (.slice (some ⟨g, 0, none⟩) n c) := by
 obtain ⟨h1, ⟨e, _⟩ | ⟨g', cap, cur, e, hB, hg, hc, hm, hs, ht⟩⟩ := h.row
 ·cases e
 ·simp only [Value.slice.injEq, Option.some.injEq, Addr.mk.injEq, and_true] at e
  obtain ⟨rfl, rfl, rfl⟩ := e
  have e1 : (l.set k z).length = l.length := by simp
  refine ⟨⟨by rw [e1]; unfold intC; simp, .inr ⟨g, c, cur.setIfInBounds k (.int .i64 z), by rw [e1], hB, Joins.block_setCell hg _, by rw [e1]; exact hc, hm, by simpa using hs, ?_⟩⟩, h.below.setCell (p := ⟨g, k, none⟩) hB _⟩
  rw [e1, Array.toList_setIfInBounds, List.take_set, ht]
  unfold intC
  rw [List.map_set]
theorem IntZ.drew {w0 w : World} {l : List Int} {v : Value} (h : IntZ w0 w l v) : IntZ w0 w.drew l v := h.keep (below_drew' (Below.refl _ _))
/-- The first i and the last i of n, exchanged. -/
def rvF (f : Nat → Int) (n i p : Nat) : Int := if p < i ∨ n ≤ p + i then f (n - 1 - p) else f p
def rvL (f : Nat → Int) (n i : Nat) : List Int := (List.range n).map (rvF f n i)
end Go.Proofs.YteoalkjngkcheaaGreat

/- Ints of a row: the first at which a function's value holds, those deleted at which it holds (slices.IndexFunc, DeleteFunc), slices.Contains of ints. -/
namespace Go.Proofs.YteoalkjngkcheaaGreat
open Go.RowKit Go.Shelf
set_option maxRecDepth 100000
set_option linter.unusedVariables false

/-- A function's value that says p, whatever is new. -/
structure PredZ (fid : FuncId) (cap : Array Value) (p : Int → Bool) (w0 : World) : Prop where
 out : ∀ (z : Int) (W : World), Below w0.heap.size w0 W → -9223372036854775808 < z → z ≤ 9223372036854775807 → Calls Tryz.prog fid (#[.int .i64 z] ++ cap) W fun e w' => e = .returned (.bool (p z)) ∧ Below W.heap.size W w'
def FstZ (p : Int → Bool) (f : Nat → Int) (n : Nat) (r : Int) : Prop := (r = -1 ∧ ∀ i, i < n → p (f i) = false) ∨ ∃ j : Nat, r = j ∧ j < n ∧ p (f j) = true ∧ ∀ i, i < j → p (f i) = false
set_option maxHeartbeats 2000000 in
theorem implIndexFn (fid : FuncId) (cap : Array Value) (p : Int → Bool) (w0 : World) (eg : ∀ args w, (callFunc fid args).run Tryz.prog w = .ok (.enter fid args) w) (hG : PredZ fid cap p w0) (a : Option Addr) (n c : Nat) (f : Nat → Int) (B : Nat) (w : World) (hs : IntsAt B w a n f) (hB : B ≤ w.heap.size) (hw : Below w0.heap.size w0 w) (hn : n ≤ 1048576)
  (hf : ∀ i, i < n → -9223372036854775808 < f i ∧ f i ≤ 9223372036854775807) :
  Calls Tryz.prog 112 #[.slice a n c, .func (.func fid) #[] cap] w fun e w' => ∃ r, FstZ p f n r ∧ e = .returned (.int .i64 r) ∧ Below w.heap.size w w' := by
 have SA := hd9 hs
 have HG := hd9 (fun k W (hk : k < n) hb => hG.out (f k) W (below_then hw hb) (hf k hk).1 (hf k hk).2)
 clear hs hG hf
 go_enter Tryz.func112, Tryz.ntmps112
 go_wp2
 go_loopw [8] (fun i wr => ∃ k : Nat, k ≤ n ∧ i = .int .i64 k ∧ (∀ j, j < k → p (f j) = false) ∧ Below w.heap.size w wr) (fun i _ => n - (intOf i).toNat)
 case atStart => exact ⟨0, Nat.zero_le _, rfl, (fun _ h => absurd h (Nat.not_lt_zero _)), Below.refl _ _⟩
 case round =>
  obtain ⟨k, hk, rfl, hne, hb⟩ := hrel
  have NE := hd9 hne
  have BW := hd9 hb
  clear hne hb
  by_cases hlt : k < n
  ·obtain ⟨b, off, rfl, hbB, hc⟩ := (SA.out.below (BW.out.mono hB)) k hlt
   have HC := hd9 (HG.out k wr hlt BW.out)
   cases hp : p (f k) with
   | true =>
    have X := hd9 (show FstZ p f n (k : Int) from .inr ⟨k, rfl, hlt, hp, NE.out⟩)
    rw [hp] at HC
    clear hp
    go_wp2_with (go_at_fn fid; refine HC.out.mono ?_; rintro e w2 ⟨rfl, b2⟩)
    have B2 := hd9 (below_then BW.out b2)
    go_ret
    exact ⟨_, X.out, rfl, B2.out⟩
   | false =>
    have N2 := hd9 (show ∀ j, j < k + 1 → p (f j) = false from fun j hj => by
     by_cases e : j = k
     ·subst e; exact hp
     ·exact NE.out j (by omega))
    rw [hp] at HC
    clear hp
    go_wp2_with (go_at_fn fid; refine HC.out.mono ?_; rintro e w2 ⟨rfl, b2⟩)
    have B2 := hd9 (below_then BW.out b2)
    go_roundw
    case rel => exact ⟨k + 1, by omega, by go_num, N2.out, B2.out⟩
    case measure => simp [intOf]; omega
  ·obtain rfl : k = n := by omega
   have X := hd9 (show FstZ p f k (-1) from .inl ⟨rfl, NE.out⟩)
   go_wp2
   go_ret
   exact ⟨_, X.out, rfl, BW.out⟩
/-! What is kept while ints are deleted in place. -/
structure KeptZ (p : Int → Bool) (l : List Int) (j i : Nat) (M : List Int) : Prop where
 len : M.length = l.length
 low : M.take i = (l.take j).filter (fun z => !p z)
 high : ∀ q, j ≤ q → q < l.length → M.getD q 0 = l.getD q 0
 lt : i < j
theorem take_nextZ {l : List Int} {k : Nat} (h : k < l.length) : l.take (k + 1) = l.take k ++ [l.getD k 0] := by
 rw [List.take_add_one]; simp [List.getD_eq_getElem?_getD, h]
theorem KeptZ.start {p : Int → Bool} {l : List Int} {k : Nat} (hk : k < l.length) (h : ∀ i, i < k → p (l.getD i 0) = false) (hp : p (l.getD k 0) = true) : KeptZ p l (k + 1) k l := by
 refine ⟨rfl, ?_, fun _ _ _ => rfl, Nat.lt_succ_self _⟩
 rw [take_nextZ hk, List.filter_append]
 have e1 : [l.getD k 0].filter (fun z => !p z) = [] := by rw [List.filter_cons]; simp only [hp, Bool.not_true]; rfl
 rw [e1, List.append_nil]
 symm
 rw [List.filter_eq_self]
 intro z hz
 obtain ⟨i, hi, e⟩ := List.getElem_of_mem hz
 rw [List.length_take] at hi
 rw [List.getElem_take] at e
 have := h i (by omega)
 rw [List.getD_eq_getElem?_getD, List.getElem?_eq_getElem (by omega)] at this
 simp only [Option.getD_some] at this
 rw [← e, this]; rfl
theorem KeptZ.keep {p : Int → Bool} {l M : List Int} {j i : Nat} (h : KeptZ p l j i M) (hj : j < l.length) (hp : p (l.getD j 0) = false) : KeptZ p l (j + 1) (i + 1) (M.set i (l.getD j 0)) := by
 obtain ⟨h1, h2, h3, h4⟩ := h
 refine ⟨by rw [List.length_set]; exact h1, ?_, fun q hq hl => ?_, by omega⟩
 ·have hi : i < M.length := by omega
  rw [take_nextZ (by rw [List.length_set]; exact hi), take_nextZ hj, List.filter_append, ← h2]
  have e1 : [l.getD j 0].filter (fun z => !p z) = [l.getD j 0] := by rw [List.filter_cons]; simp only [hp, Bool.not_false]; rfl
  rw [e1, List.take_set]
  have e2 : (M.take i).set i (l.getD j 0) = M.take i := List.set_eq_of_length_le (by rw [List.length_take]; omega)
  rw [e2]
  simp [List.getD_eq_getElem?_getD, hi]
 ·have := h3 q (by omega) hl
  rw [← this]
  simp only [List.getD_eq_getElem?_getD]
  rw [List.getElem?_set_ne (by omega)]
theorem KeptZ.skip {p : Int → Bool} {l M : List Int} {j i : Nat} (h : KeptZ p l j i M) (hj : j < l.length) (hp : p (l.getD j 0) = true) : KeptZ p l (j + 1) i M := by
 obtain ⟨h1, h2, h3, h4⟩ := h
 refine ⟨h1, ?_, fun q hq hl => h3 q (by omega) hl, by omega⟩
 rw [take_nextZ hj, List.filter_append, ← h2]
 have e1 : [l.getD j 0].filter (fun z => !p z) = [] := by rw [List.filter_cons]; simp only [hp, Bool.not_true]; rfl
 rw [e1, List.append_nil]
theorem KeptZ.done {p : Int → Bool} {l M : List Int} {i : Nat} (h : KeptZ p l l.length i M) : M.take i = l.filter (fun z => !p z) := by
 have := h.low; rwa [List.take_length] at this
theorem IntZ.take {w0 w : World} {l : List Int} {g n c i : Nat} (h : IntZ w0 w l (.slice (some ⟨g, 0, none⟩) n c)) (hi : i ≤ l.length) : IntZ w0 w (l.take i) (.slice (some ⟨g, 0, none⟩) i c) := by
 obtain ⟨hl, ⟨e, _⟩ | ⟨g', cap, cur, e, hB, hg, hc, hm, hs, ht⟩⟩ := h.row
 ·cases e
 ·simp only [Value.slice.injEq, Option.some.injEq, Addr.mk.injEq, and_true] at e
  obtain ⟨rfl, rfl, rfl⟩ := e
  have e1 : (l.take i).length = i := by rw [List.length_take]; omega
  refine ⟨⟨by unfold intC; simp, .inr ⟨g, c, cur, by rw [e1], hB, hg, by rw [e1]; omega, hm, by simpa using hs, ?_⟩⟩, h.below⟩
  have e2 : intC (l.take i) = (intC l).take i := by unfold intC; rw [List.map_take]
  rw [e1, e2, ← ht, List.take_take, Nat.mul_one, Nat.mul_one, Nat.min_eq_left hi]
theorem IntZ.zeros {w0 : World} {g n c : Nat} : ∀ (m i : Nat) (w : World) (l : List Int), IntZ w0 w l (.slice (some ⟨g, 0, none⟩) n c) → i + m ≤ l.length → ∃ l', IntZ w0 (w.setCells g i (List.replicate m (.int .i64 0))) l' (.slice (some ⟨g, 0, none⟩) n c) ∧ l'.length = l.length ∧ l'.take i = l.take i
 | 0, i, w, l, h, _ => ⟨l, h, rfl, rfl⟩
 | m + 1, i, w, l, h, hl => by
  obtain ⟨l', h1, h2, h3⟩ := IntZ.zeros m (i + 1) _ _ (h.set (k := i) (z := 0) (by omega)) (by rw [List.length_set]; omega)
  refine ⟨l', h1, by rw [h2, List.length_set], ?_⟩
  have e : l'.take i = (l'.take (i + 1)).take i := by rw [List.take_take, Nat.min_eq_left (by omega)]
  rw [e, h3, List.take_take, Nat.min_eq_left (by omega), List.take_set]
  exact List.set_eq_of_length_le (by rw [List.length_take]; omega)
theorem IntZ.cap {w0 w : World} {l : List Int} {g n c : Nat} (h : IntZ w0 w l (.slice (some ⟨g, 0, none⟩) n c)) : n ≤ c := by
 obtain ⟨hl, ⟨e, _⟩ | ⟨g', cap, cur, e, hB, hg, hc, hm, hs, ht⟩⟩ := h.row
 ·cases e
 ·simp only [Value.slice.injEq, Option.some.injEq, Addr.mk.injEq, and_true] at e
  obtain ⟨rfl, rfl, rfl⟩ := e
  omega
theorem IntZ.wide {w w2 w4 : World} {l : List Int} {v : Value} (h : IntZ w2 w4 l v) (hb : Below w.heap.size w w2) : IntZ w w4 l v := by
 obtain ⟨⟨h1, h2⟩, h3⟩ := h
 refine ⟨⟨h1, h2.imp id ?_⟩, below_then hb h3⟩
 rintro ⟨g, cap, cur, e, hB, r⟩
 exact ⟨g, cap, cur, e, Nat.le_trans hb.size hB, r⟩
theorem zeroIntZ (w : World) : (zeroValue 3).run Tryz.prog w = .ok (.int .i64 0) w := by
 first | exact Tryz.zeroValue3 w | kernel_rfl
set_option maxHeartbeats 4000000 in
theorem implDelete (fid : FuncId) (cap : Array Value) (p : Int → Bool) (eg : ∀ args w, (callFunc fid args).run Tryz.prog w = .ok (.enter fid args) w) (w0 w : World) (hG : PredZ fid cap p w0) (l : List Int) (v : Value) (h : IntZ w0 w l v) (hn : l.length ≤ 1048576) (hf : ∀ i, i < l.length → -9223372036854775808 < l.getD i 0 ∧ l.getD i 0 ≤ 9223372036854775807) :
  Calls Tryz.prog 113 #[v, .func (.func fid) #[] cap] w fun e w' => ∃ v', e = .returned v' ∧ IntZ w0 w' (l.filter (fun z => !p z)) v' := by
 obtain ⟨sa, c, rfl, hi⟩ := h.ints
 have CI := hd9 (implIndexFn fid cap p w0 eg hG sa l.length c (fun i => l.getD i 0) w.heap.size w hi (Nat.le_refl _) h.below hn hf)
 have HG := hd9 (fun k W (hk : k < l.length) hb => hG.out (l.getD k 0) W hb (hf k hk).1 (hf k hk).2)
 have H := hd9 h
 clear hi h hG hf
 have XS := hd9 (fun k (hk : k < l.length) => KeptZ.start (p := p) hk)
 have XF := hd9 (fun (h : ∀ i, i < l.length → p (l.getD i 0) = false) => (by
  rw [List.filter_eq_self]
  intro z hz
  obtain ⟨i, hi, e⟩ := List.getElem_of_mem hz
  have := h i hi
  rw [List.getD_eq_getElem?_getD, List.getElem?_eq_getElem hi] at this
  simp only [Option.getD_some] at this
  rw [← e, this]; rfl : l.filter (fun z => !p z) = l))
 obtain ⟨n, hn'⟩ : ∃ n, l.length = n := ⟨_, rfl⟩
 have HN := hd9 hn'
 rw [hn'] at CI HG hn XS XF H ⊢
 clear hn'
 go_enter Tryz.func113, Tryz.ntmps113
 go_wp2_with fail
 refine CI.out.mono ?_
 rintro e w1 ⟨r, hr, rfl, hb⟩
 have H := hd9 (H.out.keep hb)
 clear hb CI
 rcases hr with ⟨rfl, hall⟩ | ⟨k0, rfl, hk0, ht, hbef⟩
 ·have X := hd9 (XF.out hall)
  clear hall XF XS
  go_wp2
  go_ret
  exact ⟨_, rfl, by rw [X.out]; exact H.out⟩
 ·have K0 := hd9 (XS.out k0 hk0 hbef ht)
  clear ht hbef XF XS
  obtain ⟨g, c', e0, _⟩ := H.out.parts (by rw [HN.out]; omega)
  rw [HN.out] at e0
  simp only [Value.slice.injEq, true_and] at e0
  obtain ⟨rfl, rfl⟩ := e0
  have hne : ((k0 : Int) == -1) = false := beq_eq_false_iff_ne.2 (by omega)
  go_wp2
  go_loopw [5, 6] (fun s5 s6 wr => ∃ (i j : Nat) (M : List Int), s5 = .int .i64 i ∧ s6 = .int .i64 j ∧ j ≤ n ∧ KeptZ p l j i M ∧ IntZ w0 wr M (.slice (some ⟨g, 0, none⟩) n c)) (fun _ s6 _ => n - (intOf s6).toNat)
  case atStart => exact ⟨k0, k0 + 1, l, rfl, by go_num, by omega, K0.out, H.out⟩
  case round =>
   obtain ⟨i, j, M, rfl, rfl, hj, hK, hM⟩ := hrel
   have hij := hK.lt
   have KK := hd9 hK
   have HM := hd9 hM
   have hml : M.length = n := by rw [hK.len, HN.out]
   clear hK hM
   by_cases hlt : j < n
   ·obtain ⟨cj, _⟩ := HM.out.cell (k := j) (by omega)
    rw [KK.out.high j (Nat.le_refl _) (by rw [HN.out]; omega)] at cj
    have HC := hd9 (HG.out j wr hlt HM.out.below)
    obtain ⟨z, hz⟩ : ∃ z, l.getD j 0 = z := ⟨_, rfl⟩
    have EZ := hd9 hz
    rw [hz] at cj HC
    clear hz
    cases hp : p z with
    | false =>
     rw [hp] at HC
     have KN := hd9 (KK.out.keep (by rw [HN.out]; omega) (by rw [EZ.out]; exact hp))
     rw [EZ.out] at KN
     clear hp
     have hltj := hlt
     go_wp2_with (go_at_fn fid; refine HC.out.mono ?_; rintro e w2 ⟨rfl, b2⟩; have HM2 := hd9 (HM.out.keep b2); clear b2; obtain ⟨ci, fi⟩ := HM2.out.cell (k := i) (by omega))
     go_roundw
     case rel => exact ⟨i + 1, j + 1, _, by go_num, by go_num, by omega, KN.out, HM2.out.set (by omega)⟩
     case measure => simp [intOf]; omega
    | true =>
     rw [hp] at HC
     have KN := hd9 (KK.out.skip (by rw [HN.out]; omega) (by rw [EZ.out]; exact hp))
     clear hp
     go_wp2_with (go_at_fn fid; refine HC.out.mono ?_; rintro e w2 ⟨rfl, b2⟩; have HM2 := hd9 (HM.out.keep b2); clear b2)
     go_roundw
     case rel => exact ⟨i, j + 1, _, rfl, by go_num, by omega, KN.out, HM2.out⟩
     case measure => simp [intOf]; omega
   ·obtain rfl : j = n := by omega
    have hin : i < M.length := by omega
    have X := hd9 (show M.take i = l.filter (fun z => !p z) from KeptZ.done (by rw [HN.out]; exact KK.out))
    obtain ⟨L', hL1, hL2, hL3⟩ := IntZ.zeros (j - i) i _ _ HM.out (by omega)
    have HL := hd9 (hL1.take (i := i) (by omega))
    rw [hL3, X.out] at HL
    have hcl : ∀ ty, (Builtin.clear_ #[43] ty #[.slice (some ⟨g, i, none⟩) (j - i) (c - i)]).run Tryz.prog wr = .ok (.tuple #[]) (wr.setCells g i (List.replicate (j - i) (.int .i64 0))) :=
     fun ty => by
      have := Lib.run_clear_slice (P := Tryz.prog) wr 43 3 ty (.int .i64 0) Tryz.underlying43 zeroIntZ rfl rfl g i (j - i) (c - i) (by omega) (fun t ht => by rw [(HM.out.cell (k := i + t) (by omega)).1]; rfl) (fun t ht => (HM.out.cell (k := i + t) (by omega)).2)
      exact this
    have hcap := HM.out.cap
    have hic : i < c := by omega
    have hic2 : i ≤ c := by omega
    have hci : ¬ c = i := by omega
    clear hL1 hL2 hL3 X
    go_wp2
    go_ret
    exact ⟨_, rfl, HL.out⟩
end Go.Proofs.YteoalkjngkcheaaGreat

/- Indexes up to a number. -/
namespace Go.Proofs.YteoalkjngkcheaaGreat
open Go.RowKit
set_option maxRecDepth 100000
set_option linter.unusedVariables false

def upL (k : Nat) : List Int := (List.range k).map (fun (i : Nat) => (i : Int))
theorem upL_succ (k : Nat) : upL (k + 1) = upL k ++ [(k : Int)] := by unfold upL; rw [List.range_succ, List.map_append]; rfl
theorem upL_len (k : Nat) : (upL k).length = k := by unfold upL; simp
set_option maxHeartbeats 1000000 in
theorem implUpTo (n : Nat) (w : World) (hn : n ≤ 1048576) :
  Calls Tryz.prog 115 #[.int .i64 (n : Int)] w fun e w' => ∃ v, e = .returned v ∧ IntZ w w' (upL n) v := by
 have NX0 := hd9 upL_succ
 have LE := hd9 upL_len
 have ST := hd9 (IntZ.nil w w (Below.refl _ _))
 go_enter Tryz.func115, Tryz.ntmps115
 go_wp2
 go_loopw [3, 6] (fun v i wr => ∃ k : Nat, k ≤ n ∧ i = .int .i64 k ∧ IntZ w wr (upL k) v) (fun _ i _ => n - (intOf i).toNat)
 case atStart => exact ⟨0, Nat.zero_le _, rfl, ST.out⟩
 case round =>
  obtain ⟨k, hk, rfl, hir⟩ := hrel
  have IR := hd9 hir
  clear hir
  by_cases hlt : k < n
  ·have LN := hd9 (show (upL k).length ≤ 1048576 by rw [LE.out]; omega)
   have NX := hd9 (NX0.out k)
   go_wp2_with (at_builtin; go_loud (refine wpList_appInt rfl _ _ rfl (k : Int) (upL k) _ _ rfl rfl (IR.out.keep (below1 _ _)) (blk_new _ _ rfl) LN.out ?_))
   intro v' w3 hir
   have IN := hd9 (NX.out ▸ hir)
   clear hir
   go_wp2
   go_roundw
   case rel => exact ⟨k + 1, by omega, by go_num, IN.out⟩
   case measure => simp [intOf]; omega
  ·obtain rfl : k = n := by omega
   go_wp2
   go_ret
   exact ⟨_, rfl, IR.out⟩
end Go.Proofs.YteoalkjngkcheaaGreat

/- Number subscripts of the program. -/
namespace Go.Proofs.YteoalkjngkcheaaGreat
open Go.RowKit Go.Shelf
set_option maxRecDepth 100000
set_option linter.unusedVariables false

theorem implIsNeg (z : Int) (w : World) : Calls Tryz.prog 108 #[.int .i64 z] w fun e w' => e = .returned (.bool (decide (z < 0))) ∧ w = w' := by
 by_cases h : z < 0
 ·have X := hd9 (decide_eq_true h)
  go_enter Tryz.func108, Tryz.ntmps108
  go_wp2
  go_ret
  exact ⟨by rw [X.out]; rfl, rfl⟩
 ·have X := hd9 (decide_eq_false h)
  go_enter Tryz.func108, Tryz.ntmps108
  go_wp2
  go_ret
  exact ⟨by rw [X.out]; rfl, rfl⟩
theorem predNeg (w0 : World) : PredZ 108 #[] (fun z => decide (z < 0)) w0 := ⟨fun z W _ _ _ => (implIsNeg z W).mono (by rintro e w' ⟨rfl, rfl⟩; exact ⟨rfl, Below.refl _ _⟩)⟩
theorem neg_fst {c : List Int} {r : Int} (h : FstZ (fun z => decide (z < 0)) (fun i => c.getD i 0) c.length r) : decide (0 ≤ r) = bB (NegIn c) := by
 rcases h with ⟨rfl, h⟩ | ⟨j, rfl, hj, hp, _⟩
 ·rw [bB_no (show ¬ NegIn c from fun ⟨i, hi, hn⟩ => by have := h i hi; simp only [decide_eq_false_iff_not] at this; exact this hn)]; rfl
 ·rw [bB_yes (show NegIn c from ⟨j, hj, by simpa using hp⟩)]; exact decide_eq_true (by omega)
set_option maxHeartbeats 1000000 in
theorem implHasNeg (c : List Int) (a : Option Addr) (k B : Nat) (w : World) (hs : IntsAt B w a c.length (fun i => c.getD i 0)) (hB : B ≤ w.heap.size) (hn : c.length ≤ 1048576) (hf : ∀ i, i < c.length → -9223372036854775808 < c.getD i 0 ∧ c.getD i 0 ≤ 9223372036854775807) :
  Calls Tryz.prog 107 #[.slice a c.length k, .func (.func 108) #[] #[]] w fun e w' => e = .returned (.bool (bB (NegIn c))) ∧ Below w.heap.size w w' := by
 have C := hd9 (implIndexFn 108 #[] (fun z => decide (z < 0)) w (enters_of Tryz.func108 (by kernel_rfl) rfl) (predNeg w) a c.length k (fun i => c.getD i 0) B w hs hB (Below.refl _ _) hn hf)
 have X := hd9 (fun r h => neg_fst (c := c) (r := r) h)
 obtain ⟨bb, hb⟩ : ∃ b, bB (NegIn c) = b := ⟨_, rfl⟩
 rw [hb] at X ⊢
 clear hb hs hf
 go_enter Tryz.func107, Tryz.ntmps107
 go_wp2_with fail
 refine C.out.mono ?_
 rintro e w1 ⟨r, hr, rfl, b⟩
 have E := hd9 (X.out r hr)
 have BB := hd9 b
 clear hr b C X
 go_wp2
 go_ret
 exact ⟨by rw [← E.out]; rfl, BB.out⟩
set_option maxHeartbeats 1000000 in
theorem implAreNeg (c : List Int) (a : Option Addr) (k B : Nat) (w : World) (hs : IntsAt B w a c.length (fun i => c.getD i 0)) (hn : c.length ≤ 1048576) :
  Calls Tryz.prog 109 #[.slice a c.length k] w fun e w' => e = .returned (.bool (bB (AllNeg c))) ∧ w = w' := by
 have SA := hd9 hs
 have CN := hd9 (fun z W => implIsNeg z W)
 have XD := hd9 (show AllNeg c ↔ ∀ i, i < c.length → c.getD i 0 < 0 from Iff.rfl)
 obtain ⟨n, hn'⟩ : ∃ n, c.length = n := ⟨_, rfl⟩
 rw [hn'] at SA hn XD ⊢
 obtain ⟨P, hP⟩ : ∃ P, AllNeg c = P := ⟨_, rfl⟩
 rw [hP] at XD ⊢
 obtain ⟨f, hf⟩ : ∃ f : Nat → Int, (fun i => c.getD i 0) = f := ⟨_, rfl⟩
 have XD := hd9 (show P ↔ ∀ i, i < n → f i < 0 from hf ▸ XD.out)
 rw [hf] at SA
 clear hs hn' hP hf
 go_enter Tryz.func109, Tryz.ntmps109
 go_wp2
 go_loop [7] (fun i => ∃ k : Nat, k ≤ n ∧ i = .int .i64 k ∧ ∀ j, j < k → f j < 0) (fun i => n - (intOf i).toNat)
 case atStart => exact ⟨0, Nat.zero_le _, rfl, fun _ h => absurd h (Nat.not_lt_zero _)⟩
 case round =>
  obtain ⟨k, hk, rfl, hl⟩ := hrel
  have HL := hd9 hl
  clear hl
  by_cases hlt : k < n
  ·obtain ⟨b, off, rfl, hb, hc⟩ := SA.out k hlt
   obtain ⟨z, hz⟩ : ∃ z, f k = z := ⟨_, rfl⟩
   have EZ := hd9 hz
   rw [hz] at hc
   clear hz
   by_cases hp : z < 0
   ·have HN := hd9 (show ∀ j, j < k + 1 → f j < 0 from fun j hj => by
     by_cases e : j = k
     ·subst e; rw [EZ.out]; exact hp
     ·exact HL.out j (by omega))
    have CK := hd9 (fun W => by have h := CN.out z W; rw [decide_eq_true hp] at h; exact h)
    clear hp
    go_wp2_with (go_at_call 108; refine (CK.out _).mono ?_; rintro e w2 ⟨rfl, rfl⟩)
    go_round
    case rel => exact ⟨k + 1, by omega, by go_num, HN.out⟩
    case measure => simp [intOf]; omega
   ·have X := hd9 (show ¬ P from fun h => hp (by rw [← EZ.out]; exact XD.out.1 h k hlt))
    have CK := hd9 (fun W => by have h := CN.out z W; rw [decide_eq_false hp] at h; exact h)
    clear hp
    go_wp2_with (go_at_call 108; refine (CK.out _).mono ?_; rintro e w2 ⟨rfl, rfl⟩)
    go_ret
    exact ⟨ret_no X.out, rfl⟩
  ·obtain rfl : k = n := by omega
   have X := hd9 (show P from XD.out.2 HL.out)
   go_wp2
   go_ret
   exact ⟨ret_yes X.out, rfl⟩
set_option maxHeartbeats 1000000 in
theorem implIdxZ (z : Int) (a : Option Addr) (n k B : Nat) (f : Nat → Int) (w : World) (hs : IntsAt B w a n f) (hn : n ≤ 1048576) :
  Calls Tryz.prog 119 #[.slice a n k, .int .i64 z] w fun e w' => (∃ r : Int, e = .returned (.int .i64 r) ∧ (0 ≤ r ↔ ∃ i, i < n ∧ f i = z)) ∧ w = w' := by
 have SA := hd9 hs
 clear hs
 go_enter Tryz.func119, Tryz.ntmps119
 go_wp2
 go_loop [8] (fun i => ∃ k : Nat, k ≤ n ∧ i = .int .i64 k ∧ ∀ j, j < k → f j ≠ z) (fun i => n - (intOf i).toNat)
 case atStart => exact ⟨0, Nat.zero_le _, rfl, fun _ h => absurd h (Nat.not_lt_zero _)⟩
 case round =>
  obtain ⟨k, hk, rfl, hl⟩ := hrel
  have HL := hd9 hl
  clear hl
  by_cases hlt : k < n
  ·obtain ⟨b, off, rfl, hb, hc⟩ := SA.out k hlt
   by_cases hp : f k = z
   ·have X := hd9 (show ∃ i, i < n ∧ f i = z from ⟨k, hlt, hp⟩)
    rw [hp] at hc
    clear hp
    go_wp2
    go_ret
    exact ⟨⟨_, rfl, ⟨fun _ => X.out, fun _ => by omega⟩⟩, rfl⟩
   ·have hp' : (z == f k) = false := beq_eq_false_iff_ne.2 (fun e => hp e.symm)
    have HN := hd9 (show ∀ i, i < k + 1 → f i ≠ z from fun i hi => by
     by_cases e : i = k
     ·subst e; exact hp
     ·exact HL.out i (by omega))
    clear hp
    go_wp2
    go_round
    case rel => exact ⟨k + 1, by omega, by go_num, HN.out⟩
    case measure => simp [intOf]; omega
  ·obtain rfl : k = n := by omega
   have X := hd9 (show ¬ ∃ i, i < k ∧ f i = z from fun ⟨i, hi, h⟩ => HL.out i hi h)
   go_wp2
   go_ret
   exact ⟨⟨-1, rfl, ⟨fun h => by omega, fun h => absurd h X.out⟩⟩, rfl⟩
set_option maxHeartbeats 1000000 in
theorem implHasZ (c : List Int) (z : Int) (a : Option Addr) (k B : Nat) (w : World) (hs : IntsAt B w a c.length (fun i => c.getD i 0)) (hn : c.length ≤ 1048576) :
  Calls Tryz.prog 117 #[.slice a c.length k, .int .i64 z] w fun e w' => e = .returned (.bool (bB (HasZ c z))) ∧ w = w' := by
 have C := hd9 (show Calls Tryz.prog 119 #[.slice a c.length k, .int .i64 z] w (fun e w' => (∃ r : Int, e = .returned (.int .i64 r) ∧ (0 ≤ r ↔ HasZ c z)) ∧ w = w') from implIdxZ z a c.length k B (fun i => c.getD i 0) w hs hn)
 obtain ⟨P, hP⟩ : ∃ P, HasZ c z = P := ⟨_, rfl⟩
 rw [hP] at C ⊢
 clear hP hs
 go_enter Tryz.func117, Tryz.ntmps117
 go_wp2_with fail
 refine C.out.mono ?_
 rintro e w1 ⟨⟨r, rfl, hr⟩, rfl⟩
 have E := hd9 (show decide (0 ≤ r) = bB P from by
  by_cases h : 0 ≤ r
  ·rw [decide_eq_true h, bB_yes (hr.1 h)]
  ·rw [decide_eq_false h, bB_no (fun q => h (hr.2 q))])
 clear hr C
 go_wp2
 go_ret
 exact ⟨by rw [← E.out]; rfl, rfl⟩
set_option maxHeartbeats 1000000 in
theorem implExcl (c : List Int) (z : Int) (bx : Nat) (a : Option Addr) (k B : Nat) (w : World) (hx : w.heap[bx]? = some (.cells #[.slice a c.length k] 43 (0, 0))) (hs : IntsAt B w a c.length (fun i => c.getD i 0)) (hn : c.length ≤ 1048576) (h0 : -9223372036854775808 < z) (h1 : z ≤ 9223372036854775807) :
  Calls Tryz.prog 116 #[.int .i64 z, .pointer (some ⟨bx, 0, none⟩)] w fun e w' => e = .returned (.bool (bB (HasZ c (-z)))) ∧ w = w' := by
 have C := hd9 (implHasZ c (-z) a k B w hs hn)
 have hc : w.cell? ⟨bx, 0, none⟩ = some (.slice a c.length k) := cellOf hx rfl
 obtain ⟨bb, hb⟩ : ∃ b, bB (HasZ c (-z)) = b := ⟨_, rfl⟩
 rw [hb] at C ⊢
 clear hb hs hx
 go_enter Tryz.func116, Tryz.ntmps116
 go_wp2_with fail
 refine C.out.mono ?_
 rintro e w1 ⟨rfl, rfl⟩
 go_wp2
 go_ret
 exact ⟨rfl, rfl⟩
theorem exZ_filter (c : List Int) (n : Nat) (f : Nat → Int) (hf : ∀ i, i < n → f i = i) : (posZ f n).filter (fun z => !bB (HasZ c (-z))) = exZ c n := by
 have e : posZ f n = (List.range n).map (fun (i : Nat) => (i : Int) + 1) := by
  unfold posZ
  exact List.map_congr_left (fun i hi => by rw [hf i (List.mem_range.1 hi)])
 rw [e, List.filter_map]
 rfl
set_option maxHeartbeats 2000000 in
theorem implExcept (c : List Int) (n : Nat) (a : Option Addr) (k B : Nat) (w : World) (hs : IntsAt B w a c.length (fun i => c.getD i 0)) (hB : B ≤ w.heap.size) (hc : c.length ≤ 1048576) (hn : n ≤ 1048575) :
  Calls Tryz.prog 110 #[.slice a c.length k, .int .i64 (n : Int)] w fun e w' => ∃ v, e = .returned v ∧ IntZ w w' (exZ c n) v := by
 have UP := hd9 (fun W => implUpTo n W (by omega))
 have PS := hd9 (fun (sa : Option Addr) (cc : Nat) (W : World) (h : IntsAt W.heap.size W sa n (fun i => (upL n).getD i 0)) => implPos sa n cc (fun i => (upL n).getD i 0) W.heap.size W h (Nat.le_refl _) (by omega) (fun i hi => by unfold upL; simp [List.getD_eq_getElem?_getD, hi]; omega))
 have LU := hd9 (upL_len n)
 have PRE := hd9 (fun (w2 : World) (hb : Below w.heap.size w w2) (hx : w2.heap[w.heap.size]? = some (.cells #[.slice a c.length k] 43 (0, 0))) => (⟨fun z W hW h0 h1 => (implExcl c z w.heap.size a k B W (by rw [hW.block _ (gs9.1 hx).1]; exact hx) ((hs.below (hb.mono hB)).below (hW.mono (Nat.le_trans hB hb.size))) hc h0 h1).mono (by rintro e w' ⟨rfl, rfl⟩; exact ⟨rfl, Below.refl _ _⟩)⟩ : PredZ 116 #[.pointer (some ⟨w.heap.size, 0, none⟩)] (fun z => bB (HasZ c (-z))) w2))
 have DL := hd9 (fun (w2 w3 : World) (v : Value) (hG : PredZ 116 #[.pointer (some ⟨w.heap.size, 0, none⟩)] (fun z => bB (HasZ c (-z))) w2) (h : IntZ w2 w3 (posZ (fun i => (upL n).getD i 0) n) v) => (by
  have g := implDelete 116 #[.pointer (some ⟨w.heap.size, 0, none⟩)] (fun z => bB (HasZ c (-z))) (enters_of Tryz.func116 (by kernel_rfl) rfl) w2 w3 hG _ v h (by rw [posZ_len]; omega) (fun i hi => by rw [posZ_len] at hi; unfold posZ upL; simp [List.getD_eq_getElem?_getD, hi]; omega)
  rw [exZ_filter c n _ (fun i hi => by unfold upL; simp [List.getD_eq_getElem?_getD, hi])] at g
  exact g : Calls Tryz.prog 113 #[v, .func (.func 116) #[] #[.pointer (some ⟨w.heap.size, 0, none⟩)]] w3 (fun e w' => ∃ v', e = .returned v' ∧ IntZ w2 w' (exZ c n) v')))
 clear hs
 go_enter Tryz.func110, Tryz.ntmps110
 go_wp2_with fail
 obtain ⟨w1, hw1⟩ : ∃ W, w.alloc (.cells #[.slice a c.length k] 43) = W := ⟨_, rfl⟩
 have B1 := hd9 (show Below w.heap.size w w1 from hw1 ▸ below1 w _)
 have KX := hd9 (show w1.heap[w.heap.size]? = some (.cells #[.slice a c.length k] 43 (0, 0)) from hw1 ▸ blk_new w _ rfl)
 rw [hw1]
 clear hw1
 refine (UP.out _).mono ?_
 rintro e w2 ⟨v2, rfl, hz2⟩
 obtain ⟨sa, cc, rfl, hi⟩ := hz2.ints
 rw [LU.out] at hi ⊢
 have B2 := hd9 (below_then B1.out hz2.below)
 have KX := hd9 (blk_below hz2.below KX.out)
 have HI := hd9 hi
 clear hz2 hi
 go_wp2_with fail
 refine (PS.out _ _ _ HI.out).mono ?_
 rintro e w3 ⟨v3, rfl, hz3⟩
 have H3 := hd9 hz3
 clear hz3
 go_wp2_with fail
 refine (DL.out w2 w3 v3 (PRE.out w2 B2.out KX.out) H3.out).mono ?_
 rintro e w4 ⟨v4, rfl, hz4⟩
 have H4 := hd9 (hz4.wide B2.out)
 clear hz4
 go_wp2
 go_ret
 exact ⟨_, rfl, H4.out⟩
end Go.Proofs.YteoalkjngkcheaaGreat

/- Number and logical subscripts of the program. -/
namespace Go.Proofs.YteoalkjngkcheaaGreat
open Go.RowKit
set_option maxRecDepth 100000
set_option linter.unusedVariables false

set_option maxHeartbeats 2000000 in
theorem implProblem (l : List It) (a : Option Addr) (c lo hi : Nat) (w : World) (hI : ItemsAt lo hi w a l) (hhi : hi ≤ w.heap.size) (hn : l.length ≤ 1048576) :
  Calls Tryz.prog 104 #[.slice a l.length c] w fun e w' => e = .returned (.string (nmE l)) ∧ Below w.heap.size w w' := by
 have AI := hd9 (fun (k : Nat) (W : World) (hk : k < l.length) (hb : Below w.heap.size w W) => (hI.below hb hhi).at_ hk)
 have XO := hd9 (nmE_ok l)
 have XF := hd9 (nmE_frac l)
 have XU := hd9 (nmE_out l)
 obtain ⟨n, hn'⟩ : ∃ n, l.length = n := ⟨_, rfl⟩
 rw [hn'] at AI XO XF XU hn ⊢
 obtain ⟨R, hR⟩ : ∃ R, nmE l = R := ⟨_, rfl⟩
 rw [hR] at XO XF XU ⊢
 clear hI hn' hR
 go_enter Tryz.func104, Tryz.ntmps104
 go_wp2
 go_loopw [7] (fun i wr => ∃ k : Nat, k ≤ n ∧ i = .int .i64 k ∧ (∀ j, j < k → OkN (l.getD j noI)) ∧ Below w.heap.size w wr) (fun i _ => n - (intOf i).toNat)
 case atStart => exact ⟨0, Nat.zero_le _, rfl, (fun _ h => absurd h (Nat.not_lt_zero _)), Below.refl _ _⟩
 case round =>
  obtain ⟨k, hk, rfl, hne, hb⟩ := hrel
  have NE := hd9 hne
  have BW := hd9 hb
  clear hne hb
  by_cases hlt : k < n
  ·obtain ⟨ba, off, rfl, hbB, c0, c1, c2'⟩ := AI.out k wr hlt BW.out
   have c2 : wr.cell? ⟨ba, off + k * 3 + 2, none⟩ = some (.string (l.getD k noI).t) := c2'
   clear c2'
   obtain ⟨x, hx⟩ : ∃ x, l.getD k noI = x := ⟨_, rfl⟩
   have EX := hd9 hx
   rw [hx] at c0 c1 c2
   clear hx
   have XF1 := hd9 (fun h1 => XF.out k hlt NE.out (by rw [EX.out]; exact h1))
   have XU1 := hd9 (show x.d ≤ 1 → (x.n < -40 ∨ 40 < x.n) → R = oobB from fun h1 h2 => XU.out k hlt NE.out (by rw [EX.out]; omega) (by rw [EX.out]; exact h2))
   by_cases h1 : 1 < x.d
   ·have X := hd9 (XF1.out h1)
    have BN := hd9 (BW.out.alloc BW.out.size (.cells #[.int .i64 x.n, .int .i64 x.d, .string x.t] 64))
    clear XF XU XF1 XU1 XO
    go_wp2
    go_ret
    exact ⟨by rw [X.out]; rfl, BN.out⟩
   ·have X2 := hd9 (show (x.n < -40 ∨ 40 < x.n) → R = oobB from fun h2 => XU1.out (by omega) h2)
    have BN := hd9 (BW.out.alloc BW.out.size (.cells #[.int .i64 x.n, .int .i64 x.d, .string x.t] 64))
    clear XF XU XF1 XU1
    by_cases h2 : x.n < -40
    ·have X := hd9 (X2.out (.inl h2))
     clear X2 XO
     go_wp2
     go_ret
     exact ⟨by rw [X.out]; rfl, BN.out⟩
    ·by_cases h3 : 40 < x.n
     ·have X := hd9 (X2.out (.inr h3))
      clear X2 XO
      go_wp2
      go_ret
      exact ⟨by rw [X.out]; rfl, BN.out⟩
     ·have OK := hd9 (show ∀ j, j < k + 1 → OkN (l.getD j noI) from fun j hj => by
       by_cases e : j = k
       ·subst e; rw [EX.out]; exact ⟨by omega, by omega, by omega⟩
       ·exact NE.out j (by omega))
      clear X2
      go_wp2
      go_roundw
      case rel => exact ⟨k + 1, by omega, by go_num, OK.out, BN.out⟩
      case measure => simp [intOf]; omega
  ·obtain rfl : k = n := by omega
   have X := hd9 (XO.out NE.out)
   go_wp2
   go_ret
   exact ⟨by rw [X.out]; rfl, BW.out⟩
theorem neq_noI {w' : World} {x y : It} {X Y : Operand} (h : x ≠ y) :
  (do eqGuard .neq 64 X Y (.agg #[.int .i64 x.n, .int .i64 x.d, .string x.t]) (.agg #[.int .i64 y.n, .int .i64 y.d, .string y.t]); binOp .neq 64 (.agg #[.int .i64 x.n, .int .i64 x.d, .string x.t]) (.agg #[.int .i64 y.n, .int .i64 y.d, .string y.t]) : Sem Value).run Tryz.prog w' = .ok (.bool true) w' := by
 obtain ⟨xn, xd, xt⟩ := x
 obtain ⟨yn, yd, yt⟩ := y
 have hm : Tryz.prog.eqGuardType Tryz.prog.depth 64 = false := by kernel_rfl
 rw [Sem.run_bind, run_eqGuard_agg (hm := hm)]
 show (binOp .neq 64 _ _).run Tryz.prog w' = _
 rw [run_neq_struct]
 by_cases h0 : xn = yn
 ·subst h0
  by_cases h1 : xd = yd
  ·subst h1
   have h2 : ¬ xt.toList = yt.toList := fun e => h (by rw [toList_inj e])
   simp [go_sem, h2]
  ·simp [go_sem, h1]
 ·simp [go_sem, h0]
theorem zero_iff {x : It} (h : NumIt x) (o : OkN x) : x = ⟨0, 1, ⟨#[]⟩⟩ ↔ ¬ (x.n ≠ 0 ∨ x.d = 0) := by
 obtain ⟨n, d, t⟩ := x
 have h1 : t = ⟨#[]⟩ := h.t
 have h2 : 0 ≤ d := h.d0
 have h3 : d ≤ 1 := o.1
 constructor
 ·intro e; cases e; rintro (h | h) <;> revert h <;> decide
 ·intro e
  have e1 : n = 0 := Classical.byContradiction (fun q => e (.inl q))
  have e2 : ¬ d = 0 := fun q => e (.inr q)
  have e3 : d = 1 := by omega
  rw [h1, e1, e3]
set_option maxHeartbeats 2000000 in
theorem implZeros (l : List It) (a : Option Addr) (c lo hi : Nat) (w : World) (hI : ItemsAt lo hi w a l) (hhi : hi ≤ w.heap.size) (hn : l.length ≤ 1048576) (hnum : ∀ i, i < l.length → NumIt (l.getD i noI)) (hok : ∀ i, i < l.length → OkN (l.getD i noI)) :
  Calls Tryz.prog 106 #[.slice a l.length c] w fun e w' => ∃ v, e = .returned v ∧ IntZ w w' (nmC l l.length) v := by
 have AI := hd9 (fun (k : Nat) (W : World) (hk : k < l.length) (hb : Below w.heap.size w W) => (hI.below hb hhi).at_ hk)
 have ZI := hd9 (fun k (hk : k < l.length) => zero_iff (hnum k hk) (hok k hk))
 have YS := hd9 (fun k h => nmC_yes (l := l) (k := k) h)
 have NS := hd9 (fun k h => nmC_no (l := l) (k := k) h)
 have LE := hd9 (nmC_len l)
 have ST := hd9 (show IntZ w w (nmC l 0) (.slice none 0 0) from IntZ.nil w w (Below.refl _ _))
 have CM := hd9 (fun W => (by
  have h := implMake 0 1 W (by decide) (by decide)
  rw [mkI_int (n := 0) (by decide) (by decide)] at h
  exact h : Calls Tryz.prog 111 #[.int .i64 0, .int .i64 1] W (fun e w' => e = .returned (.agg #[.int .i64 0, .int .i64 1, .string ⟨#[]⟩]) ∧ Below W.heap.size W w')))
 obtain ⟨n, hn'⟩ : ∃ n, l.length = n := ⟨_, rfl⟩
 rw [hn'] at AI ZI hn ⊢
 clear hI hn' hnum hok
 go_enter Tryz.func106, Tryz.ntmps106
 go_wp2
 go_loopw [3, 8] (fun v i wr => ∃ k : Nat, k ≤ n ∧ i = .int .i64 k ∧ IntZ w wr (nmC l k) v) (fun _ i _ => n - (intOf i).toNat)
 case atStart => exact ⟨0, Nat.zero_le _, rfl, ST.out⟩
 case round =>
  obtain ⟨k, hk, rfl, hir⟩ := hrel
  have IR := hd9 hir
  clear hir
  by_cases hlt : k < n
  ·obtain ⟨ba, off, rfl, hbB, c0, c1, c2'⟩ := AI.out k wr hlt IR.out.below
   have c2 : wr.cell? ⟨ba, off + k * 3 + 2, none⟩ = some (.string (l.getD k noI).t) := c2'
   have LN := hd9 (show (nmC l k).length ≤ 1048576 by have := LE.out k; omega)
   have Z1 := ZI.out k hlt
   have Y1 := hd9 (YS.out k)
   have N1 := hd9 (NS.out k)
   obtain ⟨x, hx⟩ : ∃ x, l.getD k noI = x := ⟨_, rfl⟩
   rw [hx] at c0 c1 c2 Z1 Y1 N1
   clear hx c2'
   obtain ⟨w2, hw2⟩ : ∃ W, wr.alloc (.cells #[.int .i64 x.n, .int .i64 x.d, .string x.t] 64) = W := ⟨_, rfl⟩
   have B2 := hd9 (show Below wr.heap.size wr w2 from hw2 ▸ below1 wr _)
   have K2 := hd9 (show w2.heap[wr.heap.size]? = some (.cells #[.int .i64 x.n, .int .i64 x.d, .string x.t] 64 (0, 0)) from hw2 ▸ blk_new wr _ rfl)
   have EW := hd9 hw2
   have H := hd9 (show HeldC w2 w2 [(wr.heap.size, 64, #[.int .i64 x.n, .int .i64 x.d, .string x.t])] from heldC_one (Below.refl _ _) K2.out)
   clear hw2
   by_cases hx0 : x = ⟨0, 1, ⟨#[]⟩⟩
   ·have NX := hd9 (N1.out (Z1.1 hx0))
    have HX0 := hd9 hx0
    clear Z1 Y1 N1 hx0
    go_upto_region 5 with (fail)
    rw [EW.out]
    refine run_region (ops := (opsOf Tryz.f106 5)) (S := fun w' => HeldC w2 w' ([(wr.heap.size, 64, #[.int .i64 x.n, .int .i64 x.d, .string x.t])])) [(0, true), (1, false), (2, true)] (by kernel_rfl) (by kernel_rfl) (by kernel_rfl) (by kernel_rfl) (by kernel_rfl) (fun _ _ _ _ _ h => h) (heldC_drew H.out) ?_
    have H := hd9 (heldC_drew H.out)
    refine runC_itm (b := wr.heap.size) (show opAt (opsOf Tryz.f106 5) 0 = some (some 12, .load 64 (.tmp 5), none) from by kernel_rfl) (by kernel_rfl) (by kernel_rfl) (by kernel_rfl) mh9 ?_
    refine run_call (args := [.int .i64 0, .int .i64 1]) (show opAt (opsOf Tryz.f106 5) 1 = some (some 13, .call { callee := .value (.func 111), args := [(.const (.int .i64 0)), (.const (.int .i64 1))].toArray, argTypes := [3, 3].toArray }, none) from by kernel_rfl) (by kernel_rfl) (by kernel_rfl) (by kernel_rfl) (by kernel_rfl) ?_
    refine (CM.out _).mono ?_
    rintro en rw1 ⟨rfl, hb⟩
    refine ⟨_, rfl, heldC_call H.out hb, ?_⟩
    have H := hd9 (heldC_call H.out hb)
    clear hb
    refine run_same (v := .bool false) (p := .agg #[.int .i64 x.n, .int .i64 x.d, .string x.t]) (q := .agg #[.int .i64 0, .int .i64 1, .string ⟨#[]⟩]) (show opAt (opsOf Tryz.f106 5) 2 = some (some 14, .binOp .neq 64 (.tmp 12) (.tmp 13) 64, none) from by kernel_rfl) (by kernel_rfl) (by kernel_rfl) (by kernel_rfl) (by kernel_rfl) (fun w' => neq_item (x := x) (y := ⟨0, 1, ⟨#[]⟩⟩) HX0.out) ?_
    refine run_done ?_
    simp only [putAll, Act.put, List.setIfInBounds_toArray, List.set_cons_zero, List.set_cons_succ]
    have HB := hd9 H.out.1
    have KX := hd9 (heldC_at H.out mh9)
    clear H
    have IN := hd9 (NX.out ▸ (IR.out.keep (below_then B2.out HB.out)))
    go_wp2
    go_roundw
    case rel => exact ⟨k + 1, by omega, by go_num, IN.out⟩
    case measure => simp [intOf]; omega
   ·have NX := hd9 (Y1.out (Classical.byContradiction (fun q => hx0 (Z1.2 q))))
    have HX0 := hd9 hx0
    clear Z1 Y1 N1 hx0
    go_upto_region 5 with (fail)
    rw [EW.out]
    refine run_region (ops := (opsOf Tryz.f106 5)) (S := fun w' => HeldC w2 w' ([(wr.heap.size, 64, #[.int .i64 x.n, .int .i64 x.d, .string x.t])])) [(0, true), (1, false), (2, true)] (by kernel_rfl) (by kernel_rfl) (by kernel_rfl) (by kernel_rfl) (by kernel_rfl) (fun _ _ _ _ _ h => h) (heldC_drew H.out) ?_
    have H := hd9 (heldC_drew H.out)
    refine runC_itm (b := wr.heap.size) (show opAt (opsOf Tryz.f106 5) 0 = some (some 12, .load 64 (.tmp 5), none) from by kernel_rfl) (by kernel_rfl) (by kernel_rfl) (by kernel_rfl) mh9 ?_
    refine run_call (args := [.int .i64 0, .int .i64 1]) (show opAt (opsOf Tryz.f106 5) 1 = some (some 13, .call { callee := .value (.func 111), args := [(.const (.int .i64 0)), (.const (.int .i64 1))].toArray, argTypes := [3, 3].toArray }, none) from by kernel_rfl) (by kernel_rfl) (by kernel_rfl) (by kernel_rfl) (by kernel_rfl) ?_
    refine (CM.out _).mono ?_
    rintro en rw1 ⟨rfl, hb⟩
    refine ⟨_, rfl, heldC_call H.out hb, ?_⟩
    have H := hd9 (heldC_call H.out hb)
    clear hb
    refine run_same (v := .bool true) (p := .agg #[.int .i64 x.n, .int .i64 x.d, .string x.t]) (q := .agg #[.int .i64 0, .int .i64 1, .string ⟨#[]⟩]) (show opAt (opsOf Tryz.f106 5) 2 = some (some 14, .binOp .neq 64 (.tmp 12) (.tmp 13) 64, none) from by kernel_rfl) (by kernel_rfl) (by kernel_rfl) (by kernel_rfl) (by kernel_rfl) (fun w' => neq_noI (x := x) (y := ⟨0, 1, ⟨#[]⟩⟩) HX0.out) ?_
    refine run_done ?_
    simp only [putAll, Act.put, List.setIfInBounds_toArray, List.set_cons_zero, List.set_cons_succ]
    have HB := hd9 H.out.1
    have KX := hd9 (heldC_at H.out mh9)
    clear H
    have IK := hd9 (IR.out.keep (below_then B2.out HB.out))
    have k0 := cellOf KX.out (i := 0) rfl
    go_wp2_with (at_builtin; go_loud (refine wpList_appInt rfl _ _ rfl x.n (nmC l k) _ _ rfl rfl (IK.out.keep (below1 _ _)) (blk_new _ _ rfl) LN.out ?_))
    intro v' w3 hir
    have IN := hd9 (NX.out ▸ hir)
    clear hir
    go_wp2
    go_roundw
    case rel => exact ⟨k + 1, by omega, by go_num, IN.out⟩
    case measure => simp [intOf]; omega
  ·obtain rfl : k = n := by omega
   go_wp2
   go_ret
   exact ⟨_, rfl, IR.out⟩
/-- Positions and a problem. -/
def ResZ (l : List Int) (s : ByteArray) (w : World) (e : Ending) (w' : World) : Prop := ∃ v, e = .returned (.tuple #[v, .string s]) ∧ IntZ w w' l v
theorem resZ_nil {l : List Int} {s : ByteArray} {w w' : World} (hl : l = []) (hb : Below w.heap.size w w') : ResZ l s w (.returned (.tuple #[.slice none 0 0, .string s])) w' := by
 subst hl; exact ⟨_, rfl, IntZ.nil w w' hb⟩
set_option maxHeartbeats 4000000 in
theorem implNumSub (l : List It) (a : Option Addr) (c lo hi n : Nat) (nmv : Value) (w : World) (hI : ItemsAt lo hi w a l) (hhi : hi ≤ w.heap.size) (hl : l.length ≤ 1048576) (hn : n ≤ 40) (hnum : ∀ i, i < l.length → NumIt (l.getD i noI)) :
  Calls Tryz.prog 105 #[.slice a l.length c, .int .i64 (n : Int), nmv] w (ResZ (nuZ l n) (nuS l) w) := by
 have CP := hd9 (implProblem l a c lo hi w hI hhi hl)
 by_cases he : nmE l = ⟨#[]⟩
 ·have hok := nmE_all l he
  have CZ := hd9 (fun (W : World) (hb : Below w.heap.size w W) => implZeros l a c lo hi W (hI.below hb hhi) (Nat.le_trans hhi hb.size) hl hnum hok)
  obtain ⟨C, hC⟩ : ∃ C, nmC l l.length = C := ⟨_, rfl⟩
  have hin : ∀ i, i < C.length → -40 ≤ C.getD i 0 ∧ C.getD i 0 ≤ 40 := fun i hi => by
   rw [← hC] at hi ⊢
   obtain ⟨j, h1, h2, _⟩ := nmC_mem.1 (getDZ_mem hi)
   have := hok j h1
   obtain ⟨_, h4, h5⟩ := this
   omega
  have hcl : C.length ≤ 1048576 := by rw [← hC]; exact Nat.le_trans (nmC_len l _) hl
  obtain ⟨e1, e2⟩ := nu_ok n he
  rw [hC] at e1 e2 CZ
  rw [e1, e2]
  rw [he] at CP
  have CH := hd9 (fun (sa : Option Addr) (k : Nat) (W : World) (h : IntsAt W.heap.size W sa C.length (fun i => C.getD i 0)) => implHasNeg C sa k W.heap.size W h (Nat.le_refl _) hcl (fun i hi => by have := hin i hi; omega))
  have CA := hd9 (fun (sa : Option Addr) (k : Nat) (W : World) (h : IntsAt W.heap.size W sa C.length (fun i => C.getD i 0)) => implAreNeg C sa k W.heap.size W h hcl)
  have CX := hd9 (fun (sa : Option Addr) (k : Nat) (W : World) (h : IntsAt W.heap.size W sa C.length (fun i => C.getD i 0)) => implExcept C n sa k W.heap.size W h (Nat.le_refl _) hcl (by omega))
  have PL := hd9 (fun h => nm_plain (c := C) n h)
  have MX := hd9 (fun h h2 => nm_mixed (c := C) n h h2)
  have MI := hd9 (fun h h2 => nm_minus (c := C) n h h2)
  clear hI hnum he hok hin hC e1 e2 hhi hl
  go_enter Tryz.func105, Tryz.ntmps105
  go_wp2_with fail
  refine CP.out.mono ?_
  rintro e w1 ⟨rfl, b1⟩
  have B1 := hd9 b1
  clear b1
  go_wp2_with fail
  refine (CZ.out _ B1.out).mono ?_
  rintro e w2 ⟨v, rfl, hz⟩
  obtain ⟨sa, k, rfl, hi'⟩ := hz.ints
  have HZ := hd9 hz
  have HI := hd9 hi'
  clear hz hi' CZ
  go_wp2_with fail
  refine (CH.out _ _ _ HI.out).mono ?_
  rintro e w3 ⟨rfl, b3⟩
  have HZ := hd9 ((HZ.out.keep b3).wide B1.out)
  have HI := hd9 ((HI.out.below b3).mono b3.size)
  clear b3 CH
  by_cases h1 : NegIn C
  ·rw [bB_yes h1]
   go_wp2_with fail
   refine (CA.out _ _ _ HI.out).mono ?_
   rintro e w4 ⟨rfl, rfl⟩
   by_cases h2 : AllNeg C
   ·rw [bB_yes h2]
    obtain ⟨x1, x2⟩ := MI.out h1 h2
    have X1 := hd9 x1
    have X2 := hd9 x2
    clear x1 x2 h1 h2 MI MX PL CA
    go_wp2_with fail
    refine (CX.out _ _ _ HI.out).mono ?_
    rintro e w5 ⟨v5, rfl, hz5⟩
    have H5 := hd9 (hz5.wide HZ.out.below)
    clear hz5
    go_wp2
    go_ret2
    exact ⟨_, by rw [X2.out]; rfl, by rw [X1.out]; exact H5.out⟩
   ·rw [bB_no h2]
    obtain ⟨x1, x2⟩ := MX.out h1 h2
    have X1 := hd9 x1
    have X2 := hd9 x2
    have BZ := hd9 HZ.out.below
    clear x1 x2 h1 h2 MI MX PL CA CX
    go_wp2
    go_ret2
    rw [X2.out]
    exact resZ_nil X1.out BZ.out
  ·rw [bB_no h1]
   obtain ⟨x1, x2⟩ := PL.out h1
   have X1 := hd9 x1
   have X2 := hd9 x2
   clear x1 x2 h1 MI MX PL CA CX
   go_wp2
   go_ret2
   exact ⟨_, by rw [X2.out]; rfl, by rw [X1.out]; exact HZ.out⟩
 ·obtain ⟨e1, e2⟩ := nu_bad n he
  rw [e1, e2]
  obtain ⟨E, hE⟩ : ∃ E, nmE l = E := ⟨_, rfl⟩
  rw [hE] at he CP ⊢
  have hRb : (E.toList == []) = false := by have h := str_not he; rw [ByteArray.toList_eq ⟨#[]⟩] at h; exact h
  clear hI hnum he e1 e2 hE hhi hl
  go_enter Tryz.func105, Tryz.ntmps105
  go_wp2_with fail
  refine CP.out.mono ?_
  rintro e w1 ⟨rfl, b1⟩
  have B1 := hd9 b1
  clear b1 CP
  go_wp2
  go_ret2
  exact resZ_nil rfl B1.out
end Go.Proofs.YteoalkjngkcheaaGreat

/- Logical subscripts of the program. -/
namespace Go.Proofs.YteoalkjngkcheaaGreat
open Go.RowKit
set_option maxRecDepth 100000
set_option linter.unusedVariables false

theorem lgM_pos {l : List It} {n : Nat} (h : ¬ l.length = 0) : lgM l n = max n l.length := by unfold lgM; rw [if_neg h]
theorem lgM_zero {l : List It} {n : Nat} (h : l.length = 0) : lgM l n = 0 := by unfold lgM; rw [if_pos h]
theorem truth_cases (x : It) : truthI x = 0 ∨ truthI x = 1 ∨ truthI x = 2 := by unfold truthI; split <;> (try split) <;> omega
set_option maxHeartbeats 4000000 in
theorem implLgcSub (l : List It) (a : Option Addr) (c lo hi n : Nat) (nmv : Value) (w : World) (hI : ItemsAt lo hi w a l) (hhi : hi ≤ w.heap.size) (hl : l.length ≤ 40) (hn : n ≤ 40) (hnum : ∀ i, i < l.length → NumIt (l.getD i noI)) :
  Calls Tryz.prog 102 #[.slice a l.length c, .int .i64 (n : Int), nmv] w (ResZ (lgP l (lgM l n)) ⟨#[]⟩ w) := by
 by_cases h0 : l.length = 0
 ·have e0 : lgP l (lgM l n) = [] := by rw [lgM_zero h0]; rfl
  rw [e0, h0]
  go_enter Tryz.func102, Tryz.ntmps102
  go_wp2
  go_ret2
  exact resZ_nil rfl (Below.refl _ _)
 ·have AI := hd9 (fun (k : Nat) (W : World) (hk : k < l.length) (hb : Below w.heap.size w W) => (hI.below hb hhi).at_ hk)
  have CT := hd9 (fun (k : Nat) (W : World) (hk : k < l.length) => implTruth (l.getD k noI) W (hnum k hk))
  have LE := hd9 (lgP_len l)
  have PM := hd9 (fun k h => lgP_miss (l := l) (k := k) h)
  have PY := hd9 (fun k h => lgP_yes (l := l) (k := k) h)
  have PN := hd9 (fun k h => lgP_no (l := l) (k := k) h)
  have ST := hd9 (show IntZ w w (lgP l 0) (.slice none 0 0) from IntZ.nil w w (Below.refl _ _))
  have EQM := lgM_pos (n := n) h0
  obtain ⟨m, hm⟩ : ∃ m, lgM l n = m := ⟨_, rfl⟩
  rw [hm] at EQM ⊢
  have hm40 : m ≤ 40 := by omega
  obtain ⟨L, hL⟩ : ∃ L, l.length = L := ⟨_, rfl⟩
  rw [hL] at AI CT PM PY PN EQM hl h0 ⊢
  have hLp : 0 < L := by omega
  have h0b : ((L : Int) == 0) = false := beq_eq_false_iff_ne.2 (by omega)
  have hcase : (n < L ∧ m = L) ∨ (¬ n < L ∧ m = n) := by omega
  clear hI hhi hnum hm hL EQM
  rcases hcase with ⟨hlt0, rfl⟩ | ⟨hlt0, rfl⟩
  ·go_enter Tryz.func102, Tryz.ntmps102
   go_wp2
   go_loopw [8, 17] (fun v i wr => ∃ k : Nat, k ≤ m ∧ i = .int .i64 k ∧ IntZ w wr (lgP l k) v) (fun _ i _ => m - (intOf i).toNat)
   case atStart => exact ⟨0, Nat.zero_le _, rfl, ST.out⟩
   case round =>
    obtain ⟨k, hk, rfl, hir⟩ := hrel
    have IR := hd9 hir
    clear hir
    by_cases hlt : k < m
    ·have hmk : k % m < m := Nat.mod_lt k hLp
     obtain ⟨ba, off, rfl, hbB, c0, c1, c2'⟩ := AI.out (k % m) wr hmk IR.out.below
     have c2 : wr.cell? ⟨ba, off + k % m * 3 + 2, none⟩ = some (.string (l.getD (k % m) noI).t) := c2'
     have LN := hd9 (show (lgP l k).length ≤ 1048576 by have := LE.out k; omega)
     have CK := hd9 (fun W => CT.out (k % m) W hmk)
     have P1 := hd9 (PM.out k)
     have P2 := hd9 (PY.out k)
     have P3 := hd9 (PN.out k)
     obtain ⟨x, hx⟩ : ∃ x, l.getD (k % m) noI = x := ⟨_, rfl⟩
     rw [hx] at c0 c1 c2 CK P1 P2 P3
     have hmod : (k : Int).tmod (m : Int) = ((k % m : Nat) : Int) := rfl
     obtain ⟨q, hq⟩ : ∃ q, k % m = q := ⟨_, rfl⟩
     rw [hq] at c0 c1 c2 hmk hmod
     have TC := truth_cases x
     obtain ⟨tr, htr⟩ : ∃ t, truthI x = t := ⟨_, rfl⟩
     rw [htr] at CK P1 P2 P3 TC
     clear hx c2' htr hq
     go_wp2_with fail
     refine (CK.out _).mono ?_
     rintro e w2 ⟨rfl, b2⟩
     have IR := hd9 (IR.out.keep b2)
     clear b2 CK
     rcases TC with rfl | rfl | rfl
     ·have IN := hd9 (P3.out rfl ▸ IR.out)
      clear P1 P2 P3
      go_wp2
      go_roundw
      case rel => exact ⟨k + 1, by omega, by go_num, IN.out⟩
      case measure => simp [intOf]; omega
     ·have NX := hd9 (P2.out rfl)
      clear P1 P2 P3
      go_wp2_with (at_builtin; go_loud (refine wpList_appInt rfl _ _ rfl ((k : Int) + 1) (lgP l k) _ _ rfl rfl (IR.out.keep (below1 _ _)) (blk_new _ _ rfl) LN.out ?_))
      intro v' w3 hir
      have IN := hd9 (NX.out ▸ hir)
      clear hir
      go_wp2
      go_roundw
      case rel => exact ⟨k + 1, by omega, by go_num, IN.out⟩
      case measure => simp [intOf]; omega
     ·have NX := hd9 (P1.out rfl)
      clear P1 P2 P3
      go_wp2_with (at_builtin; go_loud (refine wpList_appInt rfl _ _ rfl 0 (lgP l k) _ _ rfl rfl (IR.out.keep (below1 _ _)) (blk_new _ _ rfl) LN.out ?_))
      intro v' w3 hir
      have IN := hd9 (NX.out ▸ hir)
      clear hir
      go_wp2
      go_roundw
      case rel => exact ⟨k + 1, by omega, by go_num, IN.out⟩
      case measure => simp [intOf]; omega
    ·obtain rfl : k = m := by omega
     go_wp2
     go_ret2
     exact ⟨_, rfl, IR.out⟩
  ·go_enter Tryz.func102, Tryz.ntmps102
   go_wp2
   go_loopw [8, 17] (fun v i wr => ∃ k : Nat, k ≤ m ∧ i = .int .i64 k ∧ IntZ w wr (lgP l k) v) (fun _ i _ => m - (intOf i).toNat)
   case atStart => exact ⟨0, Nat.zero_le _, rfl, ST.out⟩
   case round =>
    obtain ⟨k, hk, rfl, hir⟩ := hrel
    have IR := hd9 hir
    clear hir
    by_cases hlt : k < m
    ·have hmk : k % L < L := Nat.mod_lt k hLp
     obtain ⟨ba, off, rfl, hbB, c0, c1, c2'⟩ := AI.out (k % L) wr hmk IR.out.below
     have c2 : wr.cell? ⟨ba, off + k % L * 3 + 2, none⟩ = some (.string (l.getD (k % L) noI).t) := c2'
     have LN := hd9 (show (lgP l k).length ≤ 1048576 by have := LE.out k; omega)
     have CK := hd9 (fun W => CT.out (k % L) W hmk)
     have P1 := hd9 (PM.out k)
     have P2 := hd9 (PY.out k)
     have P3 := hd9 (PN.out k)
     obtain ⟨x, hx⟩ : ∃ x, l.getD (k % L) noI = x := ⟨_, rfl⟩
     rw [hx] at c0 c1 c2 CK P1 P2 P3
     have hmod : (k : Int).tmod (L : Int) = ((k % L : Nat) : Int) := rfl
     obtain ⟨q, hq⟩ : ∃ q, k % L = q := ⟨_, rfl⟩
     rw [hq] at c0 c1 c2 hmk hmod
     have TC := truth_cases x
     obtain ⟨tr, htr⟩ : ∃ t, truthI x = t := ⟨_, rfl⟩
     rw [htr] at CK P1 P2 P3 TC
     clear hx c2' htr hq
     go_wp2_with fail
     refine (CK.out _).mono ?_
     rintro e w2 ⟨rfl, b2⟩
     have IR := hd9 (IR.out.keep b2)
     clear b2 CK
     rcases TC with rfl | rfl | rfl
     ·have IN := hd9 (P3.out rfl ▸ IR.out)
      clear P1 P2 P3
      go_wp2
      go_roundw
      case rel => exact ⟨k + 1, by omega, by go_num, IN.out⟩
      case measure => simp [intOf]; omega
     ·have NX := hd9 (P2.out rfl)
      clear P1 P2 P3
      go_wp2_with (at_builtin; go_loud (refine wpList_appInt rfl _ _ rfl ((k : Int) + 1) (lgP l k) _ _ rfl rfl (IR.out.keep (below1 _ _)) (blk_new _ _ rfl) LN.out ?_))
      intro v' w3 hir
      have IN := hd9 (NX.out ▸ hir)
      clear hir
      go_wp2
      go_roundw
      case rel => exact ⟨k + 1, by omega, by go_num, IN.out⟩
      case measure => simp [intOf]; omega
     ·have NX := hd9 (P1.out rfl)
      clear P1 P2 P3
      go_wp2_with (at_builtin; go_loud (refine wpList_appInt rfl _ _ rfl 0 (lgP l k) _ _ rfl rfl (IR.out.keep (below1 _ _)) (blk_new _ _ rfl) LN.out ?_))
      intro v' w3 hir
      have IN := hd9 (NX.out ▸ hir)
      clear hir
      go_wp2
      go_roundw
      case rel => exact ⟨k + 1, by omega, by go_num, IN.out⟩
      case measure => simp [intOf]; omega
    ·obtain rfl : k = m := by omega
     go_wp2
     go_ret2
     exact ⟨_, rfl, IR.out⟩
end Go.Proofs.YteoalkjngkcheaaGreat
