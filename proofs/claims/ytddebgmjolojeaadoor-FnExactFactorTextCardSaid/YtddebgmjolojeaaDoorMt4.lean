/- l5Plain of the reference. -/
import Derived.Test.YtddebgmjolojeaaDoorRows
import Derived.Test.YtddebgmjolojeaaDoorMt3
import Derived.Test.YtddebgmjolojeaaDoorMt2
import Derived.Test.YtddebgmjolojeaaDoorMt1
import Derived.WalkKit
import Derived.OwnWalk
import Derived.Deep.DeepCutAuto
import Derived.Lib.Hide
namespace Go.Proofs.YtddebgmjolojeaaDoor
open Go.RowKit
set_option maxRecDepth 100000
set_option linter.unusedVariables false

theorem build_vI {w : World} {k : Int} {a : Option Addr} {n m : Nat} : (Instr.build 31 #[(0, .int .i64 k), (1, .slice a n m)]).run Tryd.prog w = .ok (.agg #[.int .i64 k, .slice a n m, .slice none 0 0, .slice none 0 0, .slice none 0 0, .slice none 0 0, .int .i64 0, .int .i64 0]) w := by
  kernel_rfl
theorem addr_itemJ {w' : World} {b o f : Nat} (hf : f < 3) : (Instr.fieldAt 67 (.pointer (some ⟨b, o, none⟩)) f).run Tryd.prog w' = .ok (.pointer (some ⟨b, o + f, none⟩)) w' := by
  rcases (show f = 0 ∨ f = 1 ∨ f = 2 by omega) with rfl | rfl | rfl <;> simp [Instr.fieldAt, go_sem] <;> rfl
section
variable {ops : Array Oper} {Q : Exit → Act → World → Prop} {S : World → Prop}
variable {r : List (Nat × Bool)} {a : Act} {e : List (Nat × Value)} {w : World} {i d : Nat} {g : Option (Nat × Bool)} {v : Value}
theorem runC_partJ {x : Operand} {f b o : Nat} (hf : Nat.blt f 3 = true) (ho : opAt ops i = some (some d, .fieldAddr 67 x f, g)) (hd : Nat.blt d a.tmps.size = true) (hw : wantE ops a e g = some true)
    (hx : lookO a e x = .pointer (some ⟨b, o, none⟩)) (h : RunE Tryd.prog ops Q S r a ((d, .pointer (some ⟨b, o + f, none⟩)) :: e) w) : RunE Tryd.prog ops Q S ((i, true) :: r) a e w :=
  run_addr ho hd hw hx (fun w' => addr_itemJ (Nat.le_of_ble_eq_true hf)) h
theorem run_bldI {k : Int} {z x : Operand} {sa : Option Addr} {n m : Nat} (ho : opAt ops i = some (some d, .build 31 #[(0, z), (1, x)], g)) (hd : Nat.blt d a.tmps.size = true) (hw : wantE ops a e g = some true)
    (hz : lookO a e z = .int .i64 k) (hx : lookO a e x = .slice sa n m)
    (h : RunE Tryd.prog ops Q S r a ((d, .agg #[.int .i64 k, .slice sa n m, .slice none 0 0, .slice none 0 0, .slice none 0 0, .slice none 0 0, .int .i64 0, .int .i64 0]) :: e) w) : RunE Tryd.prog ops Q S ((i, true) :: r) a e w :=
  run_yield ho hd hw (fun o w' h1 _ => by
    unfold execOp
    simp only [h1, List.map_toArray, List.map_cons, List.map_nil, hx, hz]
    exact run_v build_vI) h
/-- A slice of no items. -/
theorem run_mk0I (ho : opAt ops i = some (some d, .buildSlice 28 0 #[], g)) (hd : Nat.blt d a.tmps.size = true) (hw : wantE ops a e g = some true)
    (h : ∀ W n, W = w.alloc (.cells #[] 67) → n = w.heap.size → S W ∧ RunE Tryd.prog ops Q S r a ((d, .slice (some ⟨n, 0, none⟩) 0 0) :: e) W) : RunE Tryd.prog ops Q S ((i, false) :: r) a e w := by
  obtain ⟨hS, hR⟩ := h _ _ rfl rfl
  obtain ⟨ie, hie, _⟩ := info_parts infoItm3
  refine run_eff (op := .buildSlice 28 0 #[]) ho hd hw (fun o h1 => ?_) hS hR
  unfold execOp
  have hb := run_buildSlice0 (P := Tryd.prog) w 28 67 ie Tryd.underlying28 hie
  simp only [h1, List.map_toArray, List.map_nil, Sem.run_bind, hb, Result.andThen_ok]
  rfl
end
/-- What l5Plain works on: the vector's variable, its items in a row of their own. -/
structure PlnU (W0 wx : World) (gu : Nat) (kc : Int) (v' : Value) (l : List It) : Prop where
  blk : wx.heap[gu]? = some (.cells #[.int .i64 kc, v', .slice none 0 0, .slice none 0 0, .slice none 0 0, .slice none 0 0, .int .i64 0, .int .i64 0] 31 (0, 0))
  row : wx.ownsRow W0.heap.size 67 3 v' l.length (itCells l)
  ne : v'.ownBlock ≠ some gu
  ge : W0.heap.size ≤ gu
  below : Below W0.heap.size W0 wx
theorem PlnU.keep {W0 wx w1 : World} {gu : Nat} {kc : Int} {v' : Value} {l : List It} (h : PlnU W0 wx gu kc v' l) (hb : Below wx.heap.size wx w1) : PlnU W0 w1 gu kc v' l :=
  ⟨blk_below hb h.blk, ownsRow_below h.row hb, h.ne, h.ge, below_then h.below hb⟩
theorem plnU_end {W0 w : World} {gu : Nat} {kk : Int} {sa : Option Addr} {n c : Nat} {l : List It} {C : Array Value} (hb : w.heap[gu]? = some (.cells C 31 (0, 0))) (hr : w.ownsRow W0.heap.size 67 3 (.slice sa n c) l.length (itCells l)) (ne : (Value.slice sa n c).ownBlock ≠ some gu) (ge : W0.heap.size ≤ gu) (hB : Below W0.heap.size W0 w) :
    PlnU W0 (w.setRow gu #[.int .i64 kk, .slice sa n c, .slice none 0 0, .slice none 0 0, .slice none 0 0, .slice none 0 0, .int .i64 0, .int .i64 0]) gu kk (.slice sa n c) l :=
  ⟨row_set hb, ownsRow_kept hr (fun g hg => row_old rfl (fun e => ne (by rw [hg, e]))), ne, ge, below_row hB ge _⟩
theorem row_formS {w : World} {B n : Nat} {t : TypeId} {size : Nat} {v : Value} {xs : List Value} (h : w.ownsRow B t size v n xs) : ∃ sa c, v = .slice sa n c := by
  obtain ⟨_, ⟨e, h0⟩ | ⟨g, cap, cur, e, _⟩⟩ := h
  · exact ⟨_, _, by rw [e, h0]⟩
  · exact ⟨_, _, e⟩
theorem itCells_set (z : It) : ∀ (l : List It) (k : Nat), k < l.length → itCells (l.set k z) = (itCells l).take (k * 3) ++ [Value.int .i64 z.n, .int .i64 z.d, .string z.t] ++ (itCells l).drop (k * 3 + 3)
  | [], k, h => absurd h (Nat.not_lt_zero _)
  | x :: l, 0, _ => by simp [itCells]
  | x :: l, k + 1, h => by
    have ih := itCells_set z l k (by simpa using h)
    have e : (k + 1) * 3 = k * 3 + 3 := by omega
    rw [List.set_cons_succ]
    simp only [itCells, e]
    rw [ih]
    simp
theorem row_setI {w : World} {B g n c k : Nat} {cur : Array Value} {l : List It} {z : It} (h : w.ownsRow B 67 3 (.slice (some ⟨g, 0, none⟩) n c) l.length (itCells l)) (hg : w.heap[g]? = some (.cells cur 67 (0, 0))) (hk : k < l.length) :
    k * 3 + 3 ≤ cur.size ∧ (w.setRow g (cur.toList.take (k * 3) ++ [Value.int .i64 z.n, .int .i64 z.d, .string z.t] ++ cur.toList.drop (k * 3 + 3)).toArray).ownsRow B 67 3 (.slice (some ⟨g, 0, none⟩) n c) l.length (itCells (l.set k z)) := by
  obtain ⟨h0, ⟨e, _⟩ | ⟨g', cap, cur', e, hB, hb, hn, hm, hs, ht⟩⟩ := h
  · cases e
  · simp only [Value.slice.injEq, Option.some.injEq, Addr.mk.injEq] at e
    obtain ⟨⟨rfl, _⟩, rfl, rfl⟩ := e
    rw [hb] at hg
    simp only [Option.some.injEq, Obj.cells.injEq] at hg
    obtain ⟨rfl, _⟩ := hg
    have h3 : l.length * 3 ≤ c * 3 := by omega
    refine ⟨by omega, ?_, .inr ⟨g, c, _, rfl, hB, setRow_heap _ _ _ _ _ _ hb, hn, hm, ?_, ?_⟩⟩
    · rw [itCells_len, List.length_set]
    · simp [hs]; omega
    · have e1 : cur'.toList.take (k * 3) = (itCells l).take (k * 3) := by rw [← ht, List.take_take, Nat.min_eq_left (by omega)]
      have e2 : (cur'.toList.drop (k * 3 + 3)).take (l.length * 3 - (k * 3 + 3)) = (itCells l).drop (k * 3 + 3) := by rw [← ht, List.drop_take]
      have hl : (cur'.toList.take (k * 3) ++ [Value.int .i64 z.n, .int .i64 z.d, .string z.t]).length = k * 3 + 3 := by simp [hs]; omega
      rw [itCells_set z l k hk, ← e1, ← e2]
      show List.take _ (cur'.toList.take (k * 3) ++ [Value.int .i64 z.n, .int .i64 z.d, .string z.t] ++ cur'.toList.drop (k * 3 + 3)) = _
      rw [List.take_append, hl, List.take_of_length_le (by rw [hl]; omega)]
theorem store_itemAt {w : World} {g o : Nat} {cur : Array Value} {x y z : Value} (h : w.heap[g]? = some (.cells cur 67 (0, 0))) (hl : o + 3 ≤ cur.size) (hx : x.oneCell' = true) (hy : y.oneCell' = true) (hz : z.oneCell' = true) :
    (Instr.storeAt 67 (.pointer (some ⟨g, o, none⟩)) (.agg #[x, y, z])).run Tryd.prog w = .ok () (w.setRow g (cur.toList.take o ++ [x, y, z] ++ cur.toList.drop (o + 3)).toArray) := by
  have q := run_storeCells_at (P := Tryd.prog) g o 67 [x, y, z] 0 cur w h (by simp; omega) (fun v hv => by
    simp only [List.mem_cons, List.not_mem_nil, or_false] at hv
    rcases hv with rfl | rfl | rfl
    · exact hx
    · exact hy
    · exact hz)
  obtain ⟨ie, hie, _, hsz, _⟩ := info_parts infoItm3
  simp only [Instr.storeAt, Instr.sureAddr, Sem.run_bind, Sem.run_pure, Result.andThen_ok]
  simp only [Nat.add_zero, List.length_cons, List.length_nil, Nat.zero_add] at q
  simp [storeVar, sizeOf, typeInfo, hie, Value.cells, hsz, q]
/-- The first k items plain. -/
def mixP (levels : List ByteArray) (items : List It) (k : Nat) : List It := itF (fun i => if i < k then plnI levels (items.getD i noI) else items.getD i noI) items.length
theorem mixP_len (levels : List ByteArray) (items : List It) (k : Nat) : (mixP levels items k).length = items.length := itF_len _ _
theorem mixP_zero (levels : List ByteArray) (items : List It) : mixP levels items 0 = items := by
  apply List.ext_getElem
  · exact mixP_len _ _ _
  · intro i h1 h2
    simp [mixP, itF, List.getD_eq_getElem?_getD, h2]
theorem mixP_full (levels : List ByteArray) (items : List It) : mixP levels items items.length = plnL levels items := by
  unfold mixP plnL itF
  exact List.map_congr_left (fun i hi => if_pos (List.mem_range.1 hi))
theorem mixP_at {levels : List ByteArray} {items : List It} {k : Nat} (h : k < items.length) : (mixP levels items k).getD k noI = items.getD k noI := by
  unfold mixP
  rw [itF_getD _ h, if_neg (Nat.lt_irrefl k)]
theorem mixP_set {levels : List ByteArray} {items : List It} {k : Nat} (h : k < items.length) : (mixP levels items k).set k (plnI levels (items.getD k noI)) = mixP levels items (k + 1) := by
  apply List.ext_getElem
  · rw [List.length_set, mixP_len, mixP_len]
  · intro i h1 h2
    rw [List.getElem_set]
    simp only [mixP, itF, List.getElem_map, List.getElem_range]
    by_cases e : k = i
    · subst e; simp
    · rw [if_neg e]
      by_cases h3 : i < k
      · rw [if_pos h3, if_pos (by omega)]
      · rw [if_neg h3, if_neg (by omega)]
theorem mixP_same {levels : List ByteArray} {items : List It} {k : Nat} (e : plnI levels (items.getD k noI) = items.getD k noI) : mixP levels items (k + 1) = mixP levels items k := by
  unfold mixP itF
  refine List.map_congr_left (fun i _ => ?_)
  by_cases h : i = k
  · subst h; rw [if_pos (Nat.lt_succ_self i), if_neg (Nat.lt_irrefl i), e]
  · by_cases h3 : i < k
    · rw [if_pos h3, if_pos (by omega)]
    · rw [if_neg h3, if_neg (by omega)]
theorem PlnU.fin {w W0 wr : World} {gu r n c : Nat} {kc : Int} {sa : Option Addr} {l : List It} (h : PlnU W0 wr gu kc (.slice sa n c) l) (hr : w.heap.size ≤ r ∧ r < W0.heap.size) (hB : Below w.heap.size w W0) :
    ResV 1 (vecOf kc l) w (.returned (.agg #[.int .i64 kc, .slice sa n c, .slice none 0 0, .slice none 0 0, .slice none 0 0, .slice none 0 0, .int .i64 0, .int .i64 0])) (put8 wr r 0 (.int .i64 kc) (.slice sa n c) (.slice none 0 0) (.slice none 0 0) (.slice none 0 0) (.slice none 0 0) (.int .i64 0) (.int .i64 0)) := by
  have ho := own_vecOf (k := kc) (lo := W0.heap.size) h.row (Nat.le_refl _)
  refine ⟨_, rfl, (ho.put8 hr.2 _ _ _ _ _ _ _ _).wide (by omega) ?_, put8_below (below_then hB h.below) hr.1⟩
  rw [put8_size]
  exact Nat.le_refl _
theorem PlnU.set0 {W0 wr : World} {gu : Nat} {kc k' : Int} {v' : Value} {l : List It} (h : PlnU W0 wr gu kc v' l) : PlnU W0 (wr.setCell ⟨gu, 0, none⟩ (.int .i64 k')) gu k' v' l :=
  ⟨Joins.block_setCell h.blk _, ownsRow_kept h.row (fun g hg => Below.heap_setCell _ _ _ _ (fun e => h.ne (by rw [hg, e]))), h.ne, h.ge, h.below.setCell (p := ⟨gu, 0, none⟩) h.ge _⟩
/-- The row, opened. -/
theorem PlnU.cells {W0 wr : World} {gu n c k : Nat} {kc : Int} {sa : Option Addr} {l : List It} (h : PlnU W0 wr gu kc (.slice sa n c) l) (hk : k < l.length) : ∃ g cur, sa = some ⟨g, 0, none⟩ ∧ n = l.length ∧ W0.heap.size ≤ g ∧ g ≠ gu ∧ wr.heap[g]? = some (.cells cur 67 (0, 0)) ∧ cur[k * 3]? = some (.int .i64 (l.getD k noI).n) ∧ cur[k * 3 + 1]? = some (.int .i64 (l.getD k noI).d) ∧ cur[k * 3 + 2]? = some (.string (l.getD k noI).t) := by
  have hne := h.ne
  obtain ⟨h0, ⟨_, e⟩ | ⟨g, cap, cur, e, hB, hb, hn, hm, hs, ht⟩⟩ := h.row
  · omega
  · simp only [Value.slice.injEq] at e
    obtain ⟨rfl, rfl, rfl⟩ := e
    have e3 : ∀ j, j < l.length * 3 → cur[j]? = (itCells l)[j]? := fun j hj => by rw [← ht, List.getElem?_take, if_pos hj, Array.getElem?_toList]
    obtain ⟨q0, q1, q2⟩ := itCells_at l k hk
    exact ⟨g, cur, rfl, rfl, hB, fun e => hne (by rw [← e]; rfl), hb, (e3 _ (by omega)).trans q0, (e3 _ (by omega)).trans q1, (e3 _ (by omega)).trans q2⟩
theorem PlnU.put {W0 wr : World} {gu n c k g o : Nat} {kc : Int} {l : List It} {cur : Array Value} {z : It} (h : PlnU W0 wr gu kc (.slice (some ⟨g, 0, none⟩) n c) l) (hg : wr.heap[g]? = some (.cells cur 67 (0, 0))) (hk : k < l.length) (ho : o = k * 3) : o + 3 ≤ cur.size ∧ PlnU W0 (wr.setRow g (cur.toList.take o ++ [Value.int .i64 z.n, .int .i64 z.d, .string z.t] ++ cur.toList.drop (o + 3)).toArray) gu kc (.slice (some ⟨g, 0, none⟩) n c) (l.set k z) := by
  subst ho
  obtain ⟨h1, h2⟩ := row_setI (z := z) h.row hg hk
  have hge := (h.row.lt g rfl).1
  refine ⟨h1, row_old h.blk (fun e => h.ne (by rw [e]; rfl)), ?_, h.ne, h.ge, below_row h.below hge _⟩
  rw [List.length_set]
  exact h2
theorem plnL_no {levels : List ByteArray} {items : List It} (h : levels.length = 0) : plnL levels items = items := by
  apply List.ext_getElem
  · exact plnL_len _ _
  · intro i h1 h2
    have e : plnI levels (items.getD i noI) = items.getD i noI := pln_same (.inr h)
    simp only [plnL, itF, List.getElem_map, List.getElem_range]
    rw [e]
    simp [List.getD_eq_getElem?_getD, h2]
set_option maxHeartbeats 8000000 in
theorem specPlain (d : Nat) (kk : Int) (items : List It) (parts : List Vec) (names cls levels : List ByteArray) (code env : Int) (val : Value) (lo hi : Nat) (w : World) (hv : VecAt lo hi w d (.mk kk items parts names cls levels code env) val) (hhi : hi ≤ w.heap.size) (ok : AtmOk kk items levels) :
    Calls Tryd.prog 24 #[val] w (ResV 1 (vecOf (plnK kk levels) (plnL levels items)) w) := by
  obtain ⟨d', ai, ci, ap, cp, an, cn, ac, cc, al, cl, ed, rfl, hI, hN, hC, hL, hP⟩ := vecAt_open hv
  have NI := Lib.hid (fun (W : World) (hb : Below w.heap.size w W) (hp : 0 < items.length) => show ∃ ad : Addr, ai = some ad ∧ ∀ j u, (itCells items)[j]? = some u → W.cell? (ad.add j) = some u from by
    have h := hI.below hb hhi
    obtain ⟨b, off, rfl⟩ := items_some h hp
    exact ⟨_, rfl, itCells_in h⟩)
  have li := ok.len
  obtain ⟨ieI, hieI⟩ := info_parts infoItm3
  clear hv hP hN hC ed
  obtain ⟨W0, hW0⟩ : ∃ W, (w.alloc (.cells #[.int .i64 kk, .slice ai items.length ci, .slice ap parts.length cp, .slice an names.length cn, .slice ac cls.length cc, .slice al levels.length cl, .int .i64 code, .int .i64 env] 31)).alloc (.cells #[.int .i64 0, .slice none 0 0, .slice none 0 0, .slice none 0 0, .slice none 0 0, .slice none 0 0, .int .i64 0, .int .i64 0] 31) = W := ⟨_, rfl⟩
  have hsz : (w.alloc (.cells #[.int .i64 kk, .slice ai items.length ci, .slice ap parts.length cp, .slice an names.length cn, .slice ac cls.length cc, .slice al levels.length cl, .int .i64 code, .int .i64 env] 31)).heap.size = w.heap.size + 1 := by simp
  have BW0 := Lib.hid (show Below w.heap.size w W0 from hW0 ▸ below2 w _ _)
  have SW0 := Lib.hid (show W0.heap.size = w.heap.size + 2 by rw [← hW0]; simp)
  have KARG0 := Lib.hid (show W0.heap[w.heap.size]? = some (.cells #[.int .i64 kk, .slice ai items.length ci, .slice ap parts.length cp, .slice an names.length cn, .slice ac cls.length cc, .slice al levels.length cl, .int .i64 code, .int .i64 env] 31 (0, 0)) from hW0 ▸ blk_old (blk_new w _ rfl))
  have KR0 := Lib.hid (show W0.heap[w.heap.size + 1]? = some (.cells #[.int .i64 0, .slice none 0 0, .slice none 0 0, .slice none 0 0, .slice none 0 0, .slice none 0 0, .int .i64 0, .int .i64 0] 31 (0, 0)) from hW0 ▸ blk_new _ _ hsz.symm)
  have EW := Lib.hid hW0
  clear hW0 hsz
  have NI := Lib.hid (fun (W : World) (hb : Below W0.heap.size W0 W) => NI.out W (below_then BW0.out hb))
  have H := Lib.hid (show HeldC W0 W0 ([(w.heap.size, 31, #[.int .i64 kk, .slice ai items.length ci, .slice ap parts.length cp, .slice an names.length cn, .slice ac cls.length cc, .slice al levels.length cl, .int .i64 code, .int .i64 env])]) from ⟨Below.refl _ _, fun q hq => by obtain rfl := List.mem_singleton.1 hq; exact KARG0.out⟩)
  go_enter Tryd.func24, Tryd.ntmps24
  go_upto_region 1 with (fail)
  rw [EW.out]
  go_cut [3] from 5 to 11 (fun pu wx => ∃ (gu : Nat) (sa : Option Addr) (c : Nat), pu = .pointer (some ⟨gu, 0, none⟩) ∧ PlnU W0 wx gu kk (.slice sa items.length c) items)
  case first =>
    refine run_regionT (ops := (opsOf Tryd.f24 1)) (S := fun w' => HeldC W0 w' ([(w.heap.size, 31, #[.int .i64 kk, .slice ai items.length ci, .slice ap parts.length cp, .slice an names.length cn, .slice ac cls.length cc, .slice al levels.length cl, .int .i64 code, .int .i64 env])])) (.fork [(0, true), (1, true), (3, true), (4, true)] 2 (.fork [] 5 (.leaf [(6, true), (7, false), (8, false)]) 7 (.leaf [(5, false), (6, true), (8, false)])) 7 (.leaf [(2, false), (5, false), (6, true), (8, false)])) (by kernel_rfl) (by kernel_rfl) (by kernel_rfl) (by kernel_rfl) (by kernel_rfl) (fun _ _ _ _ _ h => h) (heldC_drew H.out) ?_
    have H := Lib.hid (heldC_drew H.out)
    refine runC_partV (b := w.heap.size) (by kernel_rfl) (show opAt (opsOf Tryd.f24 1) 0 = some (some 5, .fieldAddr 31 (.tmp 1) 0, none) from by kernel_rfl) (by kernel_rfl) (by kernel_rfl) (by kernel_rfl) ?_
    refine runC_cell (b := w.heap.size) (j := 0) (v := .int .i64 kk) load_int (show opAt (opsOf Tryd.f24 1) 1 = some (some 6, .load 3 (.tmp 5), none) from by kernel_rfl) (by kernel_rfl) (by kernel_rfl) (by kernel_rfl) (List.Mem.head _) rfl ?_
    refine runC_partV (b := w.heap.size) (by kernel_rfl) (show opAt (opsOf Tryd.f24 1) 3 = some (some 8, .fieldAddr 31 (.tmp 1) 1, none) from by kernel_rfl) (by kernel_rfl) (by kernel_rfl) (by kernel_rfl) ?_
    refine runC_cell (b := w.heap.size) (j := 1) (v := .slice ai items.length ci) load_its (show opAt (opsOf Tryd.f24 1) 4 = some (some 9, .load 28 (.tmp 8), none) from by kernel_rfl) (by kernel_rfl) (by kernel_rfl) (by kernel_rfl) (List.Mem.head _) rfl ?_
    refine run_fork H.out (by kernel_rfl) (by kernel_rfl) ?_ ?_
    · refine run_mk0I (show opAt (opsOf Tryd.f24 1) 2 = some (some 7, .buildSlice 28 0 #[], none) from by kernel_rfl) (by kernel_rfl) (by kernel_rfl) (fun W2 n2 hW2 hn2 => ?_)
      subst hW2
      have KE := Lib.hid (show (_ : World).ownsRow W0.heap.size 67 3 (.slice (some ⟨n2, 0, none⟩) 0 0) 0 [] from ⟨by simp, .inr ⟨n2, 0, #[], rfl, by rw [hn2]; exact H.out.1.size, blk_new _ _ hn2, Nat.le_refl _, Nat.zero_le _, by simp, by simp⟩⟩)
      refine ⟨heldC_call H.out (below1 _ (.cells #[] 67)), ?_⟩
      have H := Lib.hid (heldC_call H.out (below1 _ (.cells #[] 67)))
      clear hn2
      refine run_fork H.out (by kernel_rfl) (by kernel_rfl) ?_ ?_
      · refine run_appM (P := Tryd.prog) (show opAt (opsOf Tryd.f24 1) 5 = some (some 10, .call { callee := .builtin .append, args := [(.tmp 7), (.tmp 9)].toArray, argTypes := [28, 28].toArray }, none) from by kernel_rfl) (by kernel_rfl) (by kernel_rfl) (by kernel_rfl) ai items.length ci (by kernel_rfl) W0.heap.size ieI _ 3 32 Tryd.underlying28 hieI.1 hieI.2.1 hieI.2.2.1 hieI.2.2.2 rfl (by decide) 0 [] KE.out (fun _ => rfl) (itCells items) (itCells_len _) (NI.out _ H.out.1) (itCells_one items) (by unfold maxLen; omega) (by omega) H.out.1.size (fun v' W5 hO hg hwh => ?_)
        rw [Nat.zero_add, List.nil_append] at hO
        obtain ⟨sa, c, rfl⟩ := row_formS hO
        have HG := Lib.hid (heldC_grown H.out hg (fun k hk => ⟨(KE.out.lt k hk).1, fun q hq => by obtain rfl := List.mem_singleton.1 hq; have := (KE.out.lt k hk).1; have := SW0.out; simp only; omega⟩))
        refine ⟨HG.out, ?_⟩
        have H := HG
        have RW := Lib.hid hO
        clear HG hO hg hwh KE
        refine run_bldI (k := kk) (sa := sa) (n := items.length) (m := c) (show opAt (opsOf Tryd.f24 1) 6 = some (some 11, .build 31 #[(0, (.tmp 6)), (1, (.tmp 10))], none) from by kernel_rfl) (by kernel_rfl) (by kernel_rfl) (by kernel_rfl) (by kernel_rfl) ?_
        refine run_new (C := #[.int .i64 0, .slice none 0 0, .slice none 0 0, .slice none 0 0, .slice none 0 0, .slice none 0 0, .int .i64 0, .int .i64 0]) (show opAt (opsOf Tryd.f24 1) 7 = some (some 3, .alloc 31, none) from by kernel_rfl) (by kernel_rfl) (by kernel_rfl) new_vec (fun W7 n7 hW7 hn7 => ?_)
        subst hW7
        have NV := Lib.hid (⟨blk_new _ _ hn7⟩ : NewB n7 31 #[.int .i64 0, .slice none 0 0, .slice none 0 0, .slice none 0 0, .slice none 0 0, .slice none 0 0, .int .i64 0, .int .i64 0] _)
        have GV := Lib.hid (by rw [hn7]; exact H.out.1.size : W0.heap.size ≤ n7)
        have NE := Lib.hid (fun e => by have := (RW.out.lt n7 e).2; omega : (Value.slice sa items.length c).ownBlock ≠ some n7)
        have RW := Lib.hid (ownsRow_below RW.out (below1 _ (.cells #[.int .i64 0, .slice none 0 0, .slice none 0 0, .slice none 0 0, .slice none 0 0, .slice none 0 0, .int .i64 0, .int .i64 0] 31)))
        refine ⟨heldC_call H.out (below1 _ (.cells #[.int .i64 0, .slice none 0 0, .slice none 0 0, .slice none 0 0, .slice none 0 0, .slice none 0 0, .int .i64 0, .int .i64 0] 31)), ?_⟩
        have H := Lib.hid (heldC_call H.out (below1 _ (.cells #[.int .i64 0, .slice none 0 0, .slice none 0 0, .slice none 0 0, .slice none 0 0, .slice none 0 0, .int .i64 0, .int .i64 0] 31)))
        clear hn7
        refine run_last (by kernel_rfl) (show opAt (opsOf Tryd.f24 1) 8 = some (none, .store 31 (.tmp 3) (.tmp 11), none) from by kernel_rfl) (by kernel_rfl) (by kernel_rfl) (by kernel_rfl) (store_vec8 NV.out.out (show (#[.int .i64 kk, .slice sa items.length c, .slice none 0 0, .slice none 0 0, .slice none 0 0, .slice none 0 0, .int .i64 0, .int .i64 0] : Array Value).all (·.oneCell') = true from by simp [Value.oneCell'])) ?_
        refine run_done ?_
        simp only [putAll, Act.put, List.setIfInBounds_toArray, List.set_cons_zero, List.set_cons_succ]
        have PU := Lib.hid (plnU_end (kk := kk) NV.out.out RW.out NE.out GV.out H.out.1)
        clear NV RW NE GV H
        go_wp2_with fail
        go_meet
        exact ⟨n7, sa, c, rfl, PU.out⟩
      · refine run_new (C := #[.int .i64 0, .slice none 0 0, .slice none 0 0, .slice none 0 0, .slice none 0 0, .slice none 0 0, .int .i64 0, .int .i64 0]) (show opAt (opsOf Tryd.f24 1) 7 = some (some 3, .alloc 31, none) from by kernel_rfl) (by kernel_rfl) (by kernel_rfl) new_vec (fun W7 n7 hW7 hn7 => ?_)
        subst hW7
        have NV := Lib.hid (⟨blk_new _ _ hn7⟩ : NewB n7 31 #[.int .i64 0, .slice none 0 0, .slice none 0 0, .slice none 0 0, .slice none 0 0, .slice none 0 0, .int .i64 0, .int .i64 0] _)
        have GV := Lib.hid (by rw [hn7]; exact H.out.1.size : W0.heap.size ≤ n7)
        have NE := Lib.hid (fun e => by have := (KE.out.lt n2 rfl).2; omega : n2 ≠ n7)
        have KE := Lib.hid (ownsRow_below KE.out (below1 _ (.cells #[.int .i64 0, .slice none 0 0, .slice none 0 0, .slice none 0 0, .slice none 0 0, .slice none 0 0, .int .i64 0, .int .i64 0] 31)))
        refine ⟨heldC_call H.out (below1 _ (.cells #[.int .i64 0, .slice none 0 0, .slice none 0 0, .slice none 0 0, .slice none 0 0, .slice none 0 0, .int .i64 0, .int .i64 0] 31)), ?_⟩
        have H := Lib.hid (heldC_call H.out (below1 _ (.cells #[.int .i64 0, .slice none 0 0, .slice none 0 0, .slice none 0 0, .slice none 0 0, .slice none 0 0, .int .i64 0, .int .i64 0] 31)))
        clear hn7
        have LT7 := Lib.hid (Array.getElem?_eq_some_iff.1 NV.out.out).1
        refine run_appM (P := Tryd.prog) (show opAt (opsOf Tryd.f24 1) 5 = some (some 10, .call { callee := .builtin .append, args := [(.tmp 7), (.tmp 9)].toArray, argTypes := [28, 28].toArray }, none) from by kernel_rfl) (by kernel_rfl) (by kernel_rfl) (by kernel_rfl) ai items.length ci (by kernel_rfl) W0.heap.size ieI _ 3 32 Tryd.underlying28 hieI.1 hieI.2.1 hieI.2.2.1 hieI.2.2.2 rfl (by decide) 0 [] KE.out (fun _ => rfl) (itCells items) (itCells_len _) (NI.out _ H.out.1) (itCells_one items) (by unfold maxLen; omega) (by omega) H.out.1.size (fun v' W5 hO hg hwh => ?_)
        rw [Nat.zero_add, List.nil_append] at hO
        obtain ⟨sa, c, rfl⟩ := row_formS hO
        have NV := Lib.hid (⟨(hg.block _ (Array.getElem?_eq_some_iff.1 NV.out.out).1 (fun e => NE.out (Option.some.inj (show some n7 = some n2 from e)).symm)).trans NV.out.out⟩ : NewB n7 31 #[.int .i64 0, .slice none 0 0, .slice none 0 0, .slice none 0 0, .slice none 0 0, .slice none 0 0, .int .i64 0, .int .i64 0] W5)
        have NE := Lib.hid (fun e => by rcases hwh with q | q <;> (rw [q] at e; first | exact NE.out (Option.some.inj (show some n2 = some n7 from e)) | (have := LT7.out; have := Option.some.inj e; omega)) : (Value.slice sa items.length c).ownBlock ≠ some n7)
        have HG := Lib.hid (heldC_grown H.out hg (fun k hk => ⟨(KE.out.lt k hk).1, fun q hq => by obtain rfl := List.mem_singleton.1 hq; have := (KE.out.lt k hk).1; have := SW0.out; simp only; omega⟩))
        refine ⟨HG.out, ?_⟩
        have H := HG
        have RW := Lib.hid hO
        clear HG hO hg hwh KE
        refine run_bldI (k := kk) (sa := sa) (n := items.length) (m := c) (show opAt (opsOf Tryd.f24 1) 6 = some (some 11, .build 31 #[(0, (.tmp 6)), (1, (.tmp 10))], none) from by kernel_rfl) (by kernel_rfl) (by kernel_rfl) (by kernel_rfl) (by kernel_rfl) ?_
        refine run_last (by kernel_rfl) (show opAt (opsOf Tryd.f24 1) 8 = some (none, .store 31 (.tmp 3) (.tmp 11), none) from by kernel_rfl) (by kernel_rfl) (by kernel_rfl) (by kernel_rfl) (store_vec8 NV.out.out (show (#[.int .i64 kk, .slice sa items.length c, .slice none 0 0, .slice none 0 0, .slice none 0 0, .slice none 0 0, .int .i64 0, .int .i64 0] : Array Value).all (·.oneCell') = true from by simp [Value.oneCell'])) ?_
        refine run_done ?_
        simp only [putAll, Act.put, List.setIfInBounds_toArray, List.set_cons_zero, List.set_cons_succ]
        have PU := Lib.hid (plnU_end (kk := kk) NV.out.out RW.out NE.out GV.out H.out.1)
        clear NV RW NE GV H
        go_wp2_with fail
        go_meet
        exact ⟨n7, sa, c, rfl, PU.out⟩
    · refine run_new (C := #[.int .i64 0, .slice none 0 0, .slice none 0 0, .slice none 0 0, .slice none 0 0, .slice none 0 0, .int .i64 0, .int .i64 0]) (show opAt (opsOf Tryd.f24 1) 7 = some (some 3, .alloc 31, none) from by kernel_rfl) (by kernel_rfl) (by kernel_rfl) new_vec (fun W7 n7 hW7 hn7 => ?_)
      subst hW7
      have NV := Lib.hid (⟨blk_new _ _ hn7⟩ : NewB n7 31 #[.int .i64 0, .slice none 0 0, .slice none 0 0, .slice none 0 0, .slice none 0 0, .slice none 0 0, .int .i64 0, .int .i64 0] _)
      have GV := Lib.hid (by rw [hn7]; exact H.out.1.size : W0.heap.size ≤ n7)
      refine ⟨heldC_call H.out (below1 _ (.cells #[.int .i64 0, .slice none 0 0, .slice none 0 0, .slice none 0 0, .slice none 0 0, .slice none 0 0, .int .i64 0, .int .i64 0] 31)), ?_⟩
      have H := Lib.hid (heldC_call H.out (below1 _ (.cells #[.int .i64 0, .slice none 0 0, .slice none 0 0, .slice none 0 0, .slice none 0 0, .slice none 0 0, .int .i64 0, .int .i64 0] 31)))
      clear hn7
      refine run_mk0I (show opAt (opsOf Tryd.f24 1) 2 = some (some 7, .buildSlice 28 0 #[], none) from by kernel_rfl) (by kernel_rfl) (by kernel_rfl) (fun W2 n2 hW2 hn2 => ?_)
      subst hW2
      have KE := Lib.hid (show (_ : World).ownsRow W0.heap.size 67 3 (.slice (some ⟨n2, 0, none⟩) 0 0) 0 [] from ⟨by simp, .inr ⟨n2, 0, #[], rfl, by rw [hn2]; exact H.out.1.size, blk_new _ _ hn2, Nat.le_refl _, Nat.zero_le _, by simp, by simp⟩⟩)
      have NE := Lib.hid (by rw [hn2]; exact Nat.ne_of_gt (Array.getElem?_eq_some_iff.1 NV.out.out).1 : n2 ≠ n7)
      have NV := Lib.hid (NV.out.keep (below1 _ (.cells #[] 67)))
      refine ⟨heldC_call H.out (below1 _ (.cells #[] 67)), ?_⟩
      have H := Lib.hid (heldC_call H.out (below1 _ (.cells #[] 67)))
      clear hn2
      have LT7 := Lib.hid (Array.getElem?_eq_some_iff.1 NV.out.out).1
      refine run_appM (P := Tryd.prog) (show opAt (opsOf Tryd.f24 1) 5 = some (some 10, .call { callee := .builtin .append, args := [(.tmp 7), (.tmp 9)].toArray, argTypes := [28, 28].toArray }, none) from by kernel_rfl) (by kernel_rfl) (by kernel_rfl) (by kernel_rfl) ai items.length ci (by kernel_rfl) W0.heap.size ieI _ 3 32 Tryd.underlying28 hieI.1 hieI.2.1 hieI.2.2.1 hieI.2.2.2 rfl (by decide) 0 [] KE.out (fun _ => rfl) (itCells items) (itCells_len _) (NI.out _ H.out.1) (itCells_one items) (by unfold maxLen; omega) (by omega) H.out.1.size (fun v' W5 hO hg hwh => ?_)
      rw [Nat.zero_add, List.nil_append] at hO
      obtain ⟨sa, c, rfl⟩ := row_formS hO
      have NV := Lib.hid (⟨(hg.block _ (Array.getElem?_eq_some_iff.1 NV.out.out).1 (fun e => NE.out (Option.some.inj (show some n7 = some n2 from e)).symm)).trans NV.out.out⟩ : NewB n7 31 #[.int .i64 0, .slice none 0 0, .slice none 0 0, .slice none 0 0, .slice none 0 0, .slice none 0 0, .int .i64 0, .int .i64 0] W5)
      have NE := Lib.hid (fun e => by rcases hwh with q | q <;> (rw [q] at e; first | exact NE.out (Option.some.inj (show some n2 = some n7 from e)) | (have := LT7.out; have := Option.some.inj e; omega)) : (Value.slice sa items.length c).ownBlock ≠ some n7)
      have HG := Lib.hid (heldC_grown H.out hg (fun k hk => ⟨(KE.out.lt k hk).1, fun q hq => by obtain rfl := List.mem_singleton.1 hq; have := (KE.out.lt k hk).1; have := SW0.out; simp only; omega⟩))
      refine ⟨HG.out, ?_⟩
      have H := HG
      have RW := Lib.hid hO
      clear HG hO hg hwh KE
      refine run_bldI (k := kk) (sa := sa) (n := items.length) (m := c) (show opAt (opsOf Tryd.f24 1) 6 = some (some 11, .build 31 #[(0, (.tmp 6)), (1, (.tmp 10))], none) from by kernel_rfl) (by kernel_rfl) (by kernel_rfl) (by kernel_rfl) (by kernel_rfl) ?_
      refine run_last (by kernel_rfl) (show opAt (opsOf Tryd.f24 1) 8 = some (none, .store 31 (.tmp 3) (.tmp 11), none) from by kernel_rfl) (by kernel_rfl) (by kernel_rfl) (by kernel_rfl) (store_vec8 NV.out.out (show (#[.int .i64 kk, .slice sa items.length c, .slice none 0 0, .slice none 0 0, .slice none 0 0, .slice none 0 0, .int .i64 0, .int .i64 0] : Array Value).all (·.oneCell') = true from by simp [Value.oneCell'])) ?_
      refine run_done ?_
      simp only [putAll, Act.put, List.setIfInBounds_toArray, List.set_cons_zero, List.set_cons_succ]
      have PU := Lib.hid (plnU_end (kk := kk) NV.out.out RW.out NE.out GV.out H.out.1)
      clear NV RW NE GV H
      go_wp2_with fail
      go_meet
      exact ⟨n7, sa, c, rfl, PU.out⟩

  case rest =>
    obtain ⟨wp, rfl⟩ : ∃ u : World, u = wc := ⟨_, rfl⟩
    obtain ⟨gu, sa, c, rfl, hp⟩ := hcut
    have PU := Lib.hid hp
    have KA := Lib.hid (blk_below PU.out.below KARG0.out)
    have KR := Lib.hid (blk_below PU.out.below KR0.out)
    have HTX := Lib.hid hL
    have HIT := Lib.hid (fun (k : Nat) (hk : k < items.length) => hI.at_ hk)
    have OK := Lib.hid ok
    clear hp H NI EW hI hL ok hieI
    by_cases hl : levels.length = 0
    · have ER := Lib.hid (show vecOf (plnK kk levels) (plnL levels items) = vecOf kk items by rw [plnK_no hl, plnL_no hl])
      rw [hl] at KA ⊢
      obtain ⟨n, hn⟩ : ∃ n, items.length = n := ⟨_, rfl⟩
      rw [hn] at PU KA li ⊢
      clear hn hl KARG0 HTX HIT OK
      obtain ⟨k0, k1, k2, k3, k4, k5, k6, k7⟩ := vec8 KA.out
      go_wp2
      go_loopw [4] (fun i wr => i = .int .i64 0 ∧ wr = wp) (fun _ _ => 0)
      case atStart => exact ⟨rfl, rfl⟩
      case round =>
        obtain ⟨rfl, rfl⟩ := hrel
        obtain ⟨y0, y1, y2, y3, y4, y5, y6, y7⟩ := vec8 PU.out.blk
        obtain ⟨z0, z1, z2, z3, z4, z5, z6, z7⟩ := vec8 KR.out
        obtain ⟨f0, f1, f2, f3, f4, f5, f6, f7⟩ := free8 KR.out
        by_cases h0 : n = 0
        · subst h0
          go_wp2
          rw [ER.out]
          exact vec_end rfl rfl rfl KR.out (PU.out.fin (by have := SW0.out; omega) BW0.out)
        · have hpos : 0 < (n : Int) := by omega
          go_wp2
          rw [ER.out]
          exact vec_end rfl rfl rfl KR.out (PU.out.fin (by have := SW0.out; omega) BW0.out)
    · have ER := Lib.hid (show vecOf (plnK kk levels) (plnL levels items) = vecOf 3 (mixP levels items items.length) by rw [plnK_yes hl, mixP_full])
      have LK := Lib.hid (fun (k : Nat) (hk : k < items.length) => OK.out.its k hk)
      have TX := Lib.hid (fun (j : Nat) (hj : j < levels.length) => HTX.out j (levels.getD j ⟨#[]⟩) (by rw [List.getD_eq_getElem?_getD, List.getElem?_eq_getElem hj]; rfl))
      have PL := Lib.hid (fun (x : It) (h : ¬ x.d = 0) => pln_lev (levels := levels) (x := x) (by omega))
      have PS := Lib.hid (fun (x : It) (h : x.d = 0) => pln_same (levels := levels) (x := x) (.inl h))
      have ll := OK.out.llen
      obtain ⟨nl, hnl⟩ : ∃ nl, levels.length = nl := ⟨_, rfl⟩
      rw [hnl] at KA KARG0 TX LK hl ll ⊢
      clear hnl
      have hl0 : 0 < (nl : Int) := by omega
      obtain ⟨n, hn⟩ : ∃ n, items.length = n := ⟨_, rfl⟩
      have HN := Lib.hid hn
      rw [hn] at PU KA KARG0 li LK HIT ER ⊢
      clear hn HTX OK
      obtain ⟨k0, k1, k2, k3, k4, k5, k6, k7⟩ := vec8 KA.out
      go_wp2
      clear k0 k1 k2 k3 k4 k5 k6 k7
      go_loopw [4] (fun i wr => ∃ (k : Nat) (kc : Int), k ≤ n ∧ i = .int .i64 k ∧ PlnU W0 wr gu kc (.slice sa n c) (mixP levels items k)) (fun i _ => n - (intOf i).toNat)
      case atStart => exact ⟨0, kk, Nat.zero_le _, rfl, by rw [mixP_zero]; exact PU.out⟩
      case round =>
        obtain ⟨k, kc, hk, rfl, hp⟩ := hrel
        clear PU KA KR
        have PU := Lib.hid hp
        have KA := Lib.hid (blk_below PU.out.below KARG0.out)
        have KR := Lib.hid (blk_below PU.out.below KR0.out)
        clear hp
        obtain ⟨k0, k1, k2, k3, k4, k5, k6, k7⟩ := vec8 KA.out
        obtain ⟨y0, y1, y2, y3, y4, y5, y6, y7⟩ := vec8 PU.out.blk
        obtain ⟨e0, e1, e2, e3, e4, e5, e6, e7⟩ := free8 PU.out.blk
        have hgA : ¬ w.heap.size = gu := by have := PU.out.ge; have := SW0.out; omega
        by_cases hlt : k < n
        · obtain ⟨g, cur, rfl, -, hge, hgu, hg, q0, q1, q2⟩ := PU.out.cells (k := k) (by rw [mixP_len, HN.out]; exact hlt)
          rw [mixP_at (by rw [HN.out]; exact hlt)] at q0 q1 q2
          have KG := Lib.hid hg
          have EK := Lib.hid (fun h => mixP_same (levels := levels) (items := items) (k := k) h)
          obtain ⟨hx0, hx1⟩ := LK.out k hlt
          obtain ⟨ba, off, rfl, hbB, c0, c1, c2⟩ := HIT.out k hlt
          have EXK := Lib.hid (mixP_set (levels := levels) (items := items) (k := k) (by rw [HN.out]; exact hlt))
          obtain ⟨x, hx⟩ : ∃ x, items.getD k noI = x := ⟨_, rfl⟩
          rw [hx] at q0 q1 q2 EK hx0 hx1 c0 EXK
          have u1 : wr.cell? ⟨g, k * 3 + 1, none⟩ = some (.int .i64 x.d) := cellOf hg q1
          have PU1 := Lib.hid (PU.out.set0 (k' := 3))
          clear hg q0 q1 q2 hx c1 c2
          by_cases hd : x.d = 0
          · have PM := Lib.hid (show PlnU W0 (wr.setCell ⟨gu, 0, none⟩ (.int .i64 3)) gu 3 (.slice (some ⟨g, 0, none⟩) n c) (mixP levels items (k + 1)) from by rw [EK.out (PS.out x hd)]; exact PU1.out)
            go_wp2
            go_roundw
            case rel => first | exact ⟨k + 1, 3, by omega, by go_num, PM.out⟩ | ((repeat apply Exists.intro); exact ⟨⟨k + 1, 3, by omega, by go_num, PM.out⟩, rfl⟩)
            case measure => simp [intOf]; omega
          · obtain ⟨h1, h2, h3⟩ : x.d = 1 ∧ 1 ≤ x.n ∧ x.n ≤ (nl : Int) := by
              rcases hx1 with q | q | q
              · omega
              · exact absurd q hd
              · exact q
            obtain ⟨m, hm0⟩ : ∃ m : Nat, (x.n - 1).toNat = m := ⟨_, rfl⟩
            have hm : m < nl := by omega
            obtain ⟨bl, ol, rfl, _, hbl', hcs⟩ := TX.out m hm
            have hba : ba < w.heap.size := by omega
            have hbl : bl < w.heap.size := by omega
            have WS := Lib.hid (show IntKind.i64.wrap (x.n - 1) = (m : Int) by rw [show x.n - 1 = (m : Int) by omega]; exact wrap64_id (by omega) (by omega))
            obtain ⟨s, hs⟩ : ∃ s, levels.getD m ⟨#[]⟩ = s := ⟨_, rfl⟩
            have EX := Lib.hid (show txE s = plnI levels x by rw [PL.out x hd, hm0, hs])
            rw [hs] at hcs
            have CX := Lib.hid c0
            have CS := Lib.hid hcs
            have CT := Lib.hid (fun W => specTxtItem s W)
            clear c0 hcs hs hx0 hx1 h1 h2 h3 hm0 EK
            go_wp2
            obtain ⟨w1, hw1⟩ : ∃ W, wr.setCell ⟨gu, 0, none⟩ (.int .i64 3) = W := ⟨_, rfl⟩
            have KG := Lib.hid (show w1.heap[g]? = some (.cells cur 67 (0, 0)) from hw1 ▸ (Below.heap_setCell _ _ _ _ hgu).trans KG.out)
            have PU1 := Lib.hid (show PlnU W0 w1 gu 3 (.slice (some ⟨g, 0, none⟩) n c) (mixP levels items k) from hw1 ▸ PU1.out)
            have KA := Lib.hid (show w1.heap[w.heap.size]? = _ from hw1 ▸ (Below.heap_setCell _ _ _ _ hgA).trans KA.out)
            rw [hw1]
            clear hw1
            have H := Lib.hid (show HeldC w w1 ([(gu, 31, #[.int .i64 3, .slice (some ⟨g, 0, none⟩) n c, .slice none 0 0, .slice none 0 0, .slice none 0 0, .slice none 0 0, .int .i64 0, .int .i64 0]), (w.heap.size, 31, #[.int .i64 kk, .slice (some ⟨ba, off, none⟩) n ci, .slice ap parts.length cp, .slice an names.length cn, .slice ac cls.length cc, .slice (some ⟨bl, ol, none⟩) nl cl, .int .i64 code, .int .i64 env])]) from ⟨below_then BW0.out PU1.out.below, fun q hq => by
              simp only [List.mem_cons, List.not_mem_nil, or_false] at hq
              rcases hq with rfl | rfl
              · exact PU1.out.blk
              · exact KA.out⟩)
            refine run_region (ops := (opsOf Tryd.f24 7)) (S := fun w' => HeldC w w' ([(gu, 31, #[.int .i64 3, .slice (some ⟨g, 0, none⟩) n c, .slice none 0 0, .slice none 0 0, .slice none 0 0, .slice none 0 0, .int .i64 0, .int .i64 0]), (w.heap.size, 31, #[.int .i64 kk, .slice (some ⟨ba, off, none⟩) n ci, .slice ap parts.length cp, .slice an names.length cn, .slice ac cls.length cc, .slice (some ⟨bl, ol, none⟩) nl cl, .int .i64 code, .int .i64 env])])) [(0, true), (1, true), (2, true), (3, true), (4, true), (5, true), (6, true), (7, true), (8, true), (9, true), (10, true), (11, true), (12, true), (13, true), (14, false), (15, true), (16, false)] (by kernel_rfl) (by kernel_rfl) (by kernel_rfl) (by kernel_rfl) (by kernel_rfl) (fun _ _ _ _ _ h => h) (heldC_drew H.out) ?_
            have H := Lib.hid (heldC_drew H.out)
            have PU1 := Lib.hid (PU1.out.keep (below_drew' (Below.refl _ _)))
            have KG := Lib.hid (blk_drew KG.out)
            refine runC_partV (b := gu) (by kernel_rfl) (show opAt (opsOf Tryd.f24 7) 0 = some (some 33, .fieldAddr 31 (.tmp 3) 1, none) from by kernel_rfl) (by kernel_rfl) (by kernel_rfl) (by kernel_rfl) ?_
            refine runC_cell (b := gu) (j := 1) (v := .slice (some ⟨g, 0, none⟩) n c) load_its (show opAt (opsOf Tryd.f24 7) 1 = some (some 34, .load 28 (.tmp 33), none) from by kernel_rfl) (by kernel_rfl) (by kernel_rfl) (by kernel_rfl) (List.Mem.head _) rfl ?_
            refine run_mov (v := .int .i64 (k : Int)) (show opAt (opsOf Tryd.f24 7) 2 = some (some 35, .move (.tmp 4), none) from by kernel_rfl) (by kernel_rfl) (by kernel_rfl) (by kernel_rfl) ?_
            refine runC_partV (b := w.heap.size) (by kernel_rfl) (show opAt (opsOf Tryd.f24 7) 3 = some (some 36, .fieldAddr 31 (.tmp 1) 5, none) from by kernel_rfl) (by kernel_rfl) (by kernel_rfl) (by kernel_rfl) ?_
            refine runC_cell (b := w.heap.size) (j := 5) (v := .slice (some ⟨bl, ol, none⟩) nl cl) load_strs (show opAt (opsOf Tryd.f24 7) 4 = some (some 37, .load 24 (.tmp 36), none) from by kernel_rfl) (by kernel_rfl) (by kernel_rfl) (by kernel_rfl) (List.Mem.tail _ (List.Mem.head _)) rfl ?_
            refine runC_partV (b := w.heap.size) (by kernel_rfl) (show opAt (opsOf Tryd.f24 7) 5 = some (some 38, .fieldAddr 31 (.tmp 1) 1, none) from by kernel_rfl) (by kernel_rfl) (by kernel_rfl) (by kernel_rfl) ?_
            refine runC_cell (b := w.heap.size) (j := 1) (v := .slice (some ⟨ba, off, none⟩) n ci) load_its (show opAt (opsOf Tryd.f24 7) 6 = some (some 39, .load 28 (.tmp 38), none) from by kernel_rfl) (by kernel_rfl) (by kernel_rfl) (by kernel_rfl) (List.Mem.tail _ (List.Mem.head _)) rfl ?_
            refine run_mov (v := .int .i64 (k : Int)) (show opAt (opsOf Tryd.f24 7) 7 = some (some 40, .move (.tmp 4), none) from by kernel_rfl) (by kernel_rfl) (by kernel_rfl) (by kernel_rfl) ?_
            refine run_idx3 (n := n) (c := ci) (b := ba) (off := off) (k := k) (show opAt (opsOf Tryd.f24 7) 8 = some (some 41, .indexAddr 28 (.tmp 39) (.tmp 40), none) from by kernel_rfl) (by kernel_rfl) (by kernel_rfl) (by kernel_rfl) (by kernel_rfl) hlt ?_
            refine runC_partJ (b := ba) (o := off + k * 3) (by kernel_rfl) (show opAt (opsOf Tryd.f24 7) 9 = some (some 42, .fieldAddr 67 (.tmp 41) 0, none) from by kernel_rfl) (by kernel_rfl) (by kernel_rfl) (by kernel_rfl) ?_
            refine runC_old (b := ba) (j := off + k * 3 + 0) (v := .int .i64 x.n) load_int (show opAt (opsOf Tryd.f24 7) 10 = some (some 43, .load 3 (.tmp 42), none) from by kernel_rfl) (by kernel_rfl) (by kernel_rfl) (by kernel_rfl) hba CX.out ?_
            refine run_sub (k := .i64) (p := x.n) (q := 1) (z := (m : Int)) (show opAt (opsOf Tryd.f24 7) 11 = some (some 44, .binOp .sub 3 (.tmp 43) (.const (.int .i64 1)) 3, none) from by kernel_rfl) (by kernel_rfl) (by kernel_rfl) (by kernel_rfl) (by kernel_rfl) WS.out ?_
            refine run_idx1 (n := nl) (c := cl) (b := bl) (off := ol) (k := m) (show opAt (opsOf Tryd.f24 7) 12 = some (some 45, .indexAddr 24 (.tmp 37) (.tmp 44), none) from by kernel_rfl) (by kernel_rfl) (by kernel_rfl) (by kernel_rfl) (by kernel_rfl) hm Tryd.underlying24 (by kernel_rfl) infoStr ?_
            refine runC_old (b := bl) (j := ol + m) (v := .string s) load_text (show opAt (opsOf Tryd.f24 7) 13 = some (some 46, .load 9 (.tmp 45), none) from by kernel_rfl) (by kernel_rfl) (by kernel_rfl) (by kernel_rfl) hbl CS.out ?_
            refine run_call (args := [.string s]) (show opAt (opsOf Tryd.f24 7) 14 = some (some 47, .call { callee := .value (.func 52), args := [(.tmp 46)].toArray, argTypes := [9].toArray }, none) from by kernel_rfl) (by kernel_rfl) (by kernel_rfl) (by kernel_rfl) (by kernel_rfl) ?_
            refine (CT.out _).mono ?_
            rintro en rw1 ⟨rfl, hb⟩
            refine ⟨_, rfl, heldC_call H.out hb, ?_⟩
            have H := Lib.hid (heldC_call H.out hb)
            have PU1 := Lib.hid (PU1.out.keep hb)
            have KG := Lib.hid (blk_below hb KG.out)
            clear hb
            refine run_idx3 (n := n) (c := c) (b := g) (off := 0) (k := k) (show opAt (opsOf Tryd.f24 7) 15 = some (some 48, .indexAddr 28 (.tmp 34) (.tmp 35), none) from by kernel_rfl) (by kernel_rfl) (by kernel_rfl) (by kernel_rfl) (by kernel_rfl) hlt ?_
            have PN := Lib.hid (PU1.out.put (k := k) (z := txE s) (o := 0 + k * 3) KG.out (by rw [mixP_len, HN.out]; exact hlt) (Nat.zero_add _))
            refine run_last (by kernel_rfl) (show opAt (opsOf Tryd.f24 7) 16 = some (none, .store 67 (.tmp 48) (.tmp 47), none) from by kernel_rfl) (by kernel_rfl) (by kernel_rfl) (by kernel_rfl) (store_itemAt (x := .int .i64 0) (y := .int .i64 1) (z := .string s) KG.out PN.out.1 rfl rfl rfl) ?_
            obtain ⟨wn, hwn⟩ : ∃ W, rw1.setRow g (cur.toList.take (0 + k * 3) ++ [Value.int .i64 0, .int .i64 1, .string s] ++ cur.toList.drop (0 + k * 3 + 3)).toArray = W := ⟨_, rfl⟩
            rw [hwn]
            have PM := Lib.hid (show PlnU W0 wn gu 3 (.slice (some ⟨g, 0, none⟩) n c) (mixP levels items (k + 1)) from by have q : PlnU W0 wn gu 3 (.slice (some ⟨g, 0, none⟩) n c) ((mixP levels items k).set k (txE s)) := (by rw [← hwn]; exact PN.out.2); rw [EX.out, EXK.out] at q; exact q)
            refine run_done ?_
            simp only [putAll, Act.put, List.setIfInBounds_toArray, List.set_cons_zero, List.set_cons_succ]
            clear hwn PN PU1 KG H
            go_wp2
            go_roundw
            case rel => first | exact ⟨k + 1, 3, by omega, by go_num, PM.out⟩ | ((repeat apply Exists.intro); exact ⟨⟨k + 1, 3, by omega, by go_num, PM.out⟩, rfl⟩)
            case measure => simp [intOf]; omega
        · obtain rfl : k = n := by omega
          have PU1 := Lib.hid (PU.out.set0 (k' := 3))
          have hlA := (Array.getElem?_eq_some_iff.1 KA.out).1
          have hgr : ¬ w.heap.size + 1 = gu := by have := PU.out.ge; have := SW0.out; omega
          have KR1 := Lib.hid (show (wr.setCell ⟨gu, 0, none⟩ (.int .i64 3)).heap[w.heap.size + 1]? = _ from (Below.heap_setCell _ _ _ _ hgr).trans KR.out)
          obtain ⟨z0, z1, z2, z3, z4, z5, z6, z7⟩ := vec8 KR.out
          obtain ⟨f0, f1, f2, f3, f4, f5, f6, f7⟩ := free8 KR.out
          go_wp2
          rw [ER.out]
          exact vec_end rfl rfl rfl KR1.out (PU1.out.fin (by have := SW0.out; omega) BW0.out)
end Go.Proofs.YtddebgmjolojeaaDoor

/- Items and texts that a call has made, with their blocks. -/
namespace Go.Proofs.YtddebgmjolojeaaDoor
open Go.RowKit
set_option maxRecDepth 100000
set_option linter.unusedVariables false

/-- Items and texts that a call has made, their blocks between lo and hi. -/
structure ItsC (a : Option Addr) (c : Nat) (l : List It) (F : List Nat) (lo hi : Nat) (w : World) : Prop where
  own : OwnIts w a l F
  nd : F.Nodup
  rg : ∀ g ∈ F, lo ≤ g ∧ g < hi
  hw : hi ≤ w.heap.size
  cap : l.length ≤ c
theorem ItsC.keep {a : Option Addr} {c : Nat} {l : List It} {F : List Nat} {lo hi : Nat} {w w' : World} (h : ItsC a c l F lo hi w) (hb : Below w.heap.size w w') : ItsC a c l F lo hi w' :=
  ⟨h.own.kept (fun g hg => hb.block g (Nat.lt_of_lt_of_le (h.rg g hg).2 h.hw)), h.nd, h.rg, Nat.le_trans h.hw hb.size, h.cap⟩
theorem ItsC.of {w0 w : World} {l : List It} {v : Value} (h : ItR w0 w l v) : ∃ a c F, v = .slice a l.length c ∧ ItsC a c l F w0.heap.size w.heap.size w := by
  obtain ⟨a, c, F, e, ho, hn, hr, hc⟩ := own_of_its h.row
  exact ⟨a, c, F, e, ho, hn, hr, Nat.le_refl _, hc⟩
structure TxsC (a : Option Addr) (c : Nat) (l : List ByteArray) (F : List Nat) (lo hi : Nat) (w : World) : Prop where
  own : OwnTxs w a l F
  nd : F.Nodup
  rg : ∀ g ∈ F, lo ≤ g ∧ g < hi
  hw : hi ≤ w.heap.size
  cap : l.length ≤ c
theorem TxsC.keep {a : Option Addr} {c : Nat} {l : List ByteArray} {F : List Nat} {lo hi : Nat} {w w' : World} (h : TxsC a c l F lo hi w) (hb : Below w.heap.size w w') : TxsC a c l F lo hi w' :=
  ⟨h.own.kept (fun g hg => hb.block g (Nat.lt_of_lt_of_le (h.rg g hg).2 h.hw)), h.nd, h.rg, Nat.le_trans h.hw hb.size, h.cap⟩
theorem TxsC.of {base : Nat} {w : World} {l : List ByteArray} {v : Value} (h : CopyTx base l v w) : ∃ a c F, v = .slice a l.length c ∧ TxsC a c l F base w.heap.size w := by
  obtain ⟨a, c, F, e, ho, hn, hr, hc⟩ := h
  exact ⟨a, c, F, e, ho, hn, hr, Nat.le_refl _, hc⟩
theorem ItsC.same {a : Option Addr} {c : Nat} {l : List It} {F : List Nat} {lo hi : Nat} {w w' : World} (h : ItsC a c l F lo hi w) (hk : ∀ g, lo ≤ g → g < hi → w'.heap[g]? = w.heap[g]?) (hs : w.heap.size ≤ w'.heap.size) : ItsC a c l F lo hi w' :=
  ⟨h.own.kept (fun g hg => hk g (h.rg g hg).1 (h.rg g hg).2), h.nd, h.rg, Nat.le_trans h.hw hs, h.cap⟩
theorem TxsC.same {a : Option Addr} {c : Nat} {l : List ByteArray} {F : List Nat} {lo hi : Nat} {w w' : World} (h : TxsC a c l F lo hi w) (hk : ∀ g, lo ≤ g → g < hi → w'.heap[g]? = w.heap[g]?) (hs : w.heap.size ≤ w'.heap.size) : TxsC a c l F lo hi w' :=
  ⟨h.own.kept (fun g hg => hk g (h.rg g hg).1 (h.rg g hg).2), h.nd, h.rg, Nat.le_trans h.hw hs, h.cap⟩
theorem its_of_own {k : Int} {L : List It} {y : Value} {lo hi : Nat} {w : World} (h : Own 1 (vecOf k L) y lo hi w) (hw : hi ≤ w.heap.size) : ∃ yi ci yp cp yn cn yc cc yl cl Fi, y = .agg #[.int .i64 k, .slice yi L.length ci, .slice yp 0 cp, .slice yn 0 cn, .slice yc 0 cc, .slice yl 0 cl, .int .i64 0, .int .i64 0] ∧ ItsC yi ci L Fi lo hi w := by
  obtain ⟨F, ho, hnd, hrg⟩ := h.out
  have ho : OwnVec w 1 (.mk k L [] [] [] [] 0 0) y F := ho
  unfold OwnVec at ho
  obtain ⟨ai, ci, ap, cp, an, cn, ac, cc, al, cl, Fi, Fp, Fn, Fc, Fl, e, rfl, hC, i1, i2, i3, i4, i5⟩ := ho
  exact ⟨ai, ci, ap, cp, an, cn, ac, cc, al, cl, Fi, e, i1, (List.nodup_append.1 hnd).1, fun g hg => hrg g (List.mem_append.2 (.inl hg)), hw, hC.1⟩
end Go.Proofs.YtddebgmjolojeaaDoor
