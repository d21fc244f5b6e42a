/- Text subscripts of the program. -/
import Derived.Test.YteoalkjngkcheaaGreatRows
import Derived.Test.YteoalkjngkcheaaGreatMy3
import Derived.Test.YteoalkjngkcheaaGreatMy2
import Derived.Test.YteoalkjngkcheaaGreatMy1
import Derived.Test.YteoalkjngkcheaaGreatIsName
import Derived.Laws.CopyOwn
import Derived.Laws.MakeOwn
import Derived.WalkKit
import Derived.OwnWalk
import Derived.Deep.DeepCutAuto
import Derived.Lib.Hide
namespace Go.Proofs.YteoalkjngkcheaaGreat
open Go.RowKit
set_option maxRecDepth 100000
set_option linter.unusedVariables false

theorem rows_apart {w : World} {b1 b2 : Nat} {e1 e2 : TypeId} {s1 s2 n1 n2 : Nat} {v1 v2 : Value} {x1 x2 : List Value} (h1 : w.ownsRow b1 e1 s1 v1 n1 x1) (h2 : w.ownsRow b2 e2 s2 v2 n2 x2) (he : e1 ≠ e2) {g : Nat} (hg1 : v1.ownBlock = some g) (hg2 : v2.ownBlock = some g) : False := by
 obtain ⟨_, ⟨rfl, _⟩ | ⟨g', cap, cur, rfl, _, hb, _⟩⟩ := h1
 ·cases hg1
 ·obtain ⟨_, ⟨rfl, _⟩ | ⟨g2', cap2, cur2, rfl, _, hb2, _⟩⟩ := h2
  ·cases hg2
  ·obtain rfl : g' = g := Option.some.inj hg1
   obtain rfl : g2' = g' := Option.some.inj hg2
   rw [hb] at hb2
   simp only [Option.some.injEq, Obj.cells.injEq] at hb2
   exact he hb2.2.1
theorem item_own {w : World} {b1 s1 n1 g : Nat} {v1 : Value} {x1 : List Value} {C : Array Value} (h1 : w.ownsRow b1 9 s1 v1 n1 x1) (hb : w.heap[g]? = some (.cells C 64 (0, 0))) (hg : v1.ownBlock = some g) : False := by
 obtain ⟨_, ⟨rfl, _⟩ | ⟨g', cap, cur, rfl, _, hb2, _⟩⟩ := h1
 ·cases hg
 ·obtain rfl : g' = g := Option.some.inj hg
  rw [hb] at hb2
  simp only [Option.some.injEq, Obj.cells.injEq] at hb2
  exact absurd hb2.2.1 (by decide)
theorem wpList_appTx2 {w0 w : World} {ops : Array Oper} {rest : List Oper} {o : Oper} {a : Act} {Q : Exit → Act → World → Prop} (hgd : o.guard = none) (s x : Operand)
  (ho : o.op = .call { callee := .builtin .append, args := #[s, x], argTypes := #[24, 24] }) (z : ByteArray) (l : List ByteArray) (v0 : Value) (b : Nat) (hs : a.eval s = v0) (hx : a.eval x = .slice (some ⟨b, 0, none⟩) 1 1)
  (hr : TxZ w0 w l v0) (hb : w.heap[b]? = some (.cells #[.string z] 9 (0, 0))) (hn : l.length ≤ 1048576) {P : List Int} {v9 : Value} (h9 : IntZ w0 w P v9)
  (h : ∀ v' w', TxZ w0 w' (l ++ [z]) v' → IntZ w0 w' P v9 → (∀ (g : Nat) (C : Array Value), w.heap[g]? = some (Obj.cells C 64 (0, 0)) → w'.heap[g]? = some (Obj.cells C 64 (0, 0))) → wpList Tryz.prog ops Q rest (a.put o.dst v') w') : wpList Tryz.prog ops Q (o :: rest) a w := by
 obtain ⟨i0, hi0, hz0, hz1, hz2⟩ := info_parts infoStr
 refine wpList_append_own w hgd s x 24 ho w0.heap.size 9 i0 (.string ⟨#[]⟩) 1 16 Tryz.underlying24 hi0 hz0 hz1 hz2 rfl (by decide) v0 l.length (l.map Value.string) hs hr.row ⟨b, 0, none⟩ 1 1 [.string z] hx rfl (fun j u hj => ?_) (fun u hu => by obtain rfl := List.mem_singleton.1 hu; rfl) (by unfold maxLen; omega) (by omega) hr.below.size (fun v' w' h1 h2 _ => ?_)
 ·obtain rfl : j = 0 := by have := (List.getElem?_eq_some_iff.1 hj).1; simpa using this
  obtain rfl : Value.string z = u := by simpa using hj
  rw [addr_add]
  exact cellOf hb rfl
 ·have e1 : l.length + 1 = (l ++ [z]).length := by simp
  have e2 : l.map Value.string ++ [Value.string z] = (l ++ [z]).map Value.string := by rw [List.map_append]; rfl
  rw [e1, e2] at h1
  have hbl : Below w0.heap.size w0 w' := hr.below.grown h2 hr.below.size (fun r hr' => (hr.row.lt r hr').1)
  exact h v' w' ⟨h1, hbl⟩ ⟨ownsRow_kept h9.row (fun g hg => h2.block g (h9.row.lt g hg).2 (fun e => rows_apart h9.row hr.row (by decide) hg e.symm)), hbl⟩ (fun g C hg => (h2.block g (gs9.1 hg).1 (fun e => item_own hr.row hg e.symm)).trans hg)
theorem wpList_appInt2 {w0 w : World} {ops : Array Oper} {rest : List Oper} {o : Oper} {a : Act} {Q : Exit → Act → World → Prop} (hgd : o.guard = none) (s x : Operand)
  (ho : o.op = .call { callee := .builtin .append, args := #[s, x], argTypes := #[43, 43] }) (z : Int) (l : List Int) (v0 : Value) (b : Nat) (hs : a.eval s = v0) (hx : a.eval x = .slice (some ⟨b, 0, none⟩) 1 1)
  (hr : IntZ w0 w l v0) (hb : w.heap[b]? = some (.cells #[.int .i64 z] 3 (0, 0))) (hn : l.length ≤ 1048576) {K : List ByteArray} {v8 : Value} (h8 : TxZ w0 w K v8)
  (h : ∀ v' w', IntZ w0 w' (l ++ [z]) v' → TxZ w0 w' K v8 → wpList Tryz.prog ops Q rest (a.put o.dst v') w') : wpList Tryz.prog ops Q (o :: rest) a w := by
 obtain ⟨i0, hi0, hz0, hz1, hz2⟩ := info_parts infoInt
 refine wpList_append_own w hgd s x 43 ho w0.heap.size 3 i0 (.int .i64 0) 1 8 Tryz.underlying43 hi0 hz0 hz1 hz2 rfl (by decide) v0 l.length (intC l) hs hr.row ⟨b, 0, none⟩ 1 1 [.int .i64 z] hx rfl (fun j u hj => ?_) (fun u hu => by obtain rfl := List.mem_singleton.1 hu; rfl) (by unfold maxLen; omega) (by omega) hr.below.size (fun v' w' h1 h2 _ => ?_)
 ·obtain rfl : j = 0 := by have := (List.getElem?_eq_some_iff.1 hj).1; simpa using this
  obtain rfl : Value.int .i64 z = u := by simpa using hj
  rw [addr_add]
  exact cellOf hb rfl
 ·have e1 : l.length + 1 = (l ++ [z]).length := by simp
  have e2 : intC l ++ [Value.int .i64 z] = intC (l ++ [z]) := intC_app l [z]
  rw [e1, e2] at h1
  have hbl : Below w0.heap.size w0 w' := hr.below.grown h2 hr.below.size (fun r hr' => (hr.row.lt r hr').1)
  exact h v' w' ⟨h1, hbl⟩ ⟨ownsRow_kept h8.row (fun g hg => h2.block g (h8.row.lt g hg).2 (fun e => rows_apart h8.row hr.row (by decide) hg e.symm)), hbl⟩
/-- A row of empty texts with others laid over its beginning. -/
theorem TxZ.spliced {w0 w1 w2 : World} {g n : Nat} {names : List ByteArray} (h : w1.ownsRow w0.heap.size 9 1 (.slice (some ⟨g, 0, none⟩) n n) n (List.replicate n (.string ⟨#[]⟩))) (hg : w2.heap[g]? = some (.cells (splice (List.replicate n (Value.string ⟨#[]⟩)) 0 (names.map Value.string)).toArray 9 (0, 0))) (hb : Below w0.heap.size w0 w2) (hl : names.length ≤ n) :
  TxZ w0 w2 (padL names n) (.slice (some ⟨g, 0, none⟩) n n) := by
 obtain ⟨_, ⟨e, _⟩ | ⟨g', cap, cur, e, hB, _, _, hm, _, _⟩⟩ := h
 ·cases e
 ·simp only [Value.slice.injEq, Option.some.injEq, Addr.mk.injEq, and_true, true_and] at e
  obtain ⟨rfl, rfl⟩ := e
  have e1 := padL_len names n hl
  have e2 : (splice (List.replicate n (Value.string ⟨#[]⟩)) 0 (names.map Value.string)) = (padL names n).map Value.string := by
   unfold splice padL
   rw [List.take_zero, List.nil_append, Nat.zero_add, List.length_map, List.drop_replicate, List.map_append, List.map_replicate]
  rw [e2] at hg
  refine ⟨⟨by rw [List.length_map, Nat.mul_one], .inr ⟨g, n, _, by rw [e1], hB, hg, by rw [e1]; exact Nat.le_refl _, hm, by simp [e1], ?_⟩⟩, hb⟩
  rw [e1]
  simp only [Nat.mul_one]
  exact List.take_of_length_le (by rw [List.length_map, e1]; exact Nat.le_refl _)
theorem row_full {w : World} {base g n : Nat} {xs : List Value} (h : w.ownsRow base 9 1 (.slice (some ⟨g, 0, none⟩) n n) n xs) : w.heap[g]? = some (.cells xs.toArray 9 (0, 0)) := by
 obtain ⟨_, ⟨e, _⟩ | ⟨g', cap, cur, e, hB, hb, _, hm, hs, ht⟩⟩ := h
 ·cases e
 ·simp only [Value.slice.injEq, Option.some.injEq, Addr.mk.injEq, and_true, true_and] at e
  obtain ⟨rfl, rfl⟩ := e
  rw [hb, ← ht, List.take_of_length_le (by simp [hs])]
theorem made_texts (n : Nat) : (madeCells #[Value.string ⟨#[]⟩] n).toList = List.replicate n (.string ⟨#[]⟩) := by
 apply List.ext_getElem
 ·simp [madeCells]
 ·intro i h1 h2
  simp [madeCells, Nat.mod_one]
set_option maxHeartbeats 4000000 in
theorem implTxtSub (l : List It) (names : List ByteArray) (a an : Option Addr) (c cn lo hi lo2 hi2 n : Nat) (w : World) (hI : ItemsAt lo hi w a l) (hhi : hi ≤ w.heap.size) (hN : TextsAt lo2 hi2 w an names) (hh2 : hi2 ≤ w.heap.size) (hl : l.length ≤ 40) (hn : n ≤ 40) (hnm : names.length = 0 ∨ names.length = n) (hit : ∀ i, i < l.length → ItOk 3 (l.getD i noI)) :
  Calls Tryz.prog 120 #[.slice a l.length c, .int .i64 (n : Int), .slice an names.length cn] w (ResZ (teZ (padL names n) l) (teS l) w) := by
 have AI := hd9 (fun (k : Nat) (W : World) (hk : k < l.length) (hb : Below w.heap.size w W) => (hI.below hb hhi).at_ hk)
 have HT := hd9 hit
 have XP := hd9 (fun (W : World) (hb : Below w.heap.size w W) (h0 : 0 < (names.map Value.string).length) => (by
  rw [List.length_map] at h0
  obtain ⟨b, off, e⟩ := texts_some hN h0
  exact ⟨⟨b, off, none⟩, e, by subst e; exact news_cells (hN.below hb hh2)⟩ : ∃ ad, an = some ad ∧ ∀ j v, (names.map Value.string)[j]? = some v → W.cell? (ad.add j) = some v))
 have LM := hd9 (show (names.map Value.string).length = Nat.min names.length n by rw [List.length_map]; rcases hnm with e | e <;> rw [e] <;> simp)
 have LF := hd9 (show 0 + (names.map Value.string).length ≤ (List.replicate n (Value.string ⟨#[]⟩)).length by rw [List.length_map, List.length_replicate]; omega)
 have L1 := hd9 (show ∀ v ∈ names.map Value.string, v.oneCell' = true from fun v hv => by obtain ⟨_, _, rfl⟩ := List.mem_map.1 hv; rfl)
 have HL := hd9 (show names.length ≤ n by omega)
 have SP := hd9 (fun (w1 w2 : World) h hg hb => TxZ.spliced (w0 := w) (w1 := w1) (w2 := w2) (g := w.heap.size) (n := n) (names := names) h hg hb HL.out)
 have KL := hd9 (fun k => (by have := txK_len (padL names n) l k; rw [padL_len names n (by omega)] at this; exact this : (txK (padL names n) l k).length ≤ n + k))
 have PL := hd9 (txP_len (padL names n) l)
 have PM := hd9 (fun k h => txP_miss (K := padL names n) (l := l) (k := k) h)
 have PO := hd9 (fun k h0 h => txP_old (K := padL names n) (l := l) (k := k) h0 h)
 have PN := hd9 (fun k h0 h => txP_new (K := padL names n) (l := l) (k := k) h0 h)
 have KM := hd9 (fun k h => txK_miss (K := padL names n) (l := l) (k := k) h)
 have KO := hd9 (fun k h => txK_old (K := padL names n) (l := l) (k := k) h)
 have KN := hd9 (fun k h0 h => txK_new (K := padL names n) (l := l) (k := k) h0 h)
 have TO := hd9 (fun h => te_ok (K := padL names n) (l := l) h)
 have TB := hd9 (fun h => te_bad (K := padL names n) (l := l) h)
 have K0 := hd9 (show txK (padL names n) l 0 = padL names n from rfl)
 have P0 := hd9 (show txP (padL names n) l 0 = [] from rfl)
 have AT := hd9 (show AllT l ↔ ∀ i, i < l.length → OkT (l.getD i noI) from Iff.rfl)
 obtain ⟨K, hK⟩ : ∃ K : Nat → List ByteArray, txK (padL names n) l = K := ⟨_, rfl⟩
 obtain ⟨Z, hZ⟩ : ∃ Z : Nat → List Int, txP (padL names n) l = Z := ⟨_, rfl⟩
 rw [hK] at KL PO PN KM KO KN K0
 rw [hZ] at PL PM PO PN TO P0
 obtain ⟨R, hR⟩ : ∃ R, teZ (padL names n) l = R := ⟨_, rfl⟩
 obtain ⟨E, hE⟩ : ∃ E, teS l = E := ⟨_, rfl⟩
 rw [hR] at TO TB ⊢
 rw [hE] at TO TB ⊢
 obtain ⟨m, hm⟩ : ∃ m, l.length = m := ⟨_, rfl⟩
 rw [hm] at AI HT TO AT hl ⊢
 obtain ⟨CS, hCS⟩ : ∃ C, names.map Value.string = C := ⟨_, rfl⟩
 rw [hCS] at XP LM LF L1 SP
 obtain ⟨RS, hRS⟩ : ∃ C, List.replicate n (Value.string ⟨#[]⟩) = C := ⟨_, rfl⟩
 have MT := hd9 (made_texts n)
 rw [hRS] at LF SP MT
 obtain ⟨PD, hPD⟩ : ∃ P, padL names n = P := ⟨_, rfl⟩
 rw [hPD] at SP K0
 obtain ⟨nn, hnn⟩ : ∃ x, names.length = x := ⟨_, rfl⟩
 rw [hnn] at LM ⊢
 clear hI hhi hN hh2 hit hK hZ hR hE hm hCS hRS hPD hnn hnm HL
 obtain ⟨i0, hi0, hz0, hz1, hz2⟩ := info_parts infoStr
 have BY := hd9 (show i0.bytes * n ≤ 281474976710656 by rw [hz2]; omega)
 go_enter Tryz.func120, Tryz.ntmps120
 go_wp2_with (at_make; go_loud (refine wpList_make_full _ rfl _ _ 24 rfl w.heap.size 9 i0 (.string ⟨#[]⟩) 1 Tryz.underlying24 hi0 hz0 hz1 .i64 .i64 (n : Int) (n : Int) n rfl rfl rfl rfl BY.out (by unfold maxLen; omega) (Nat.le_refl _) ?_))
 intro w1 hr1 hg1
 rw [MT.out] at hr1
 have R1 := hd9 hr1
 have B1 := hd9 (show Below w.heap.size w w1 from (Below.refl _ _).grown hg1 (Nat.le_refl _) (fun k e => by cases e))
 have HG := hd9 (row_full hr1)
 clear hr1 hg1
 go_wp2_with (refine wpList_copy_splice rfl _ _ 24 24 rfl 9 Tryz.underlying24 (by kernel_rfl) (some ⟨w.heap.size, 0, none⟩) an n n nn cn rfl rfl w.heap.size 0 RS 9 HG.out CS LM.out (fun h0 => ⟨rfl, XP.out _ B1.out h0⟩) LF.out L1.out w.heap.size w B1.out (Nat.le_refl _) ?_)
 intro w2 hg2 hb2
 have T0 := hd9 (show TxZ w w2 (K 0) (.slice (some ⟨w.heap.size, 0, none⟩) n n) from K0.out ▸ SP.out w1 w2 R1.out hg2.out hb2)
 have I0 := hd9 (show IntZ w w2 (Z 0) (.slice none 0 0) from P0.out ▸ IntZ.nil w w2 hb2)
 clear hg2 hb2 R1 B1 HG
 go_wp2
 go_loopw [8, 9, 19] (fun v8 v9 i wr => ∃ k : Nat, k ≤ m ∧ i = .int .i64 k ∧ TxZ w wr (K k) v8 ∧ IntZ w wr (Z k) v9 ∧ ∀ j, j < k → OkT (l.getD j noI)) (fun _ _ i _ => m - (intOf i).toNat)
 case atStart => exact ⟨0, Nat.zero_le _, rfl, T0.out, I0.out, fun _ h => absurd h (Nat.not_lt_zero _)⟩
 case round =>
  obtain ⟨k, hk, rfl, ht, hz, hok⟩ := hrel
  have TZ := hd9 ht
  have IZ := hd9 hz
  have OK := hd9 hok
  clear ht hz hok
  by_cases hlt : k < m
  ·obtain ⟨ba, off, rfl, hbB, c0, c1, c2'⟩ := AI.out k wr hlt IZ.out.below
   have c2 : wr.cell? ⟨ba, off + k * 3 + 2, none⟩ = some (.string (l.getD k noI).t) := c2'
   have IT := HT.out k hlt
   have LN := hd9 (show (Z k).length ≤ 1048576 by rw [PL.out k]; omega)
   have LK := hd9 (show (K k).length ≤ 1048576 by have := KL.out k; omega)
   have ATk := hd9 (show AllT l → OkT (l.getD k noI) from fun h => AT.out.1 h k hlt)
   have PM1 := hd9 (PM.out k)
   have PO1 := hd9 (PO.out k)
   have PN1 := hd9 (PN.out k)
   have KM1 := hd9 (KM.out k)
   have KO1 := hd9 (KO.out k)
   have KN1 := hd9 (KN.out k)
   have OKN := hd9 (show OkT (l.getD k noI) → ∀ j, j < k + 1 → OkT (l.getD j noI) from fun h j hj => by
    by_cases e : j = k
    ·subst e; exact h
    ·exact OK.out j (by omega))
   obtain ⟨x, hx⟩ : ∃ x, l.getD k noI = x := ⟨_, rfl⟩
   rw [hx] at c0 c1 c2 IT PM1 PO1 PN1 KM1 KO1 KN1 OKN ATk
   clear hx c2'
   have hcase : x = noI ∨ ∃ t : ByteArray, x = ⟨0, 1, t⟩ := by
    rcases IT with h | ⟨h, _⟩ | ⟨h, _⟩ | ⟨_, h1, h2, _⟩
    ·exact .inl h
    ·exact absurd h (by decide)
    ·exact absurd h (by decide)
    ·obtain ⟨xn, xd, xt⟩ := x
     have h1' : xn = 0 := h1
     have h2' : xd = 1 := h2
     subst h1' h2'
     exact .inr ⟨xt, rfl⟩
   rcases hcase with rfl | ⟨t, rfl⟩
   ·have NX := hd9 (PM1.out rfl)
    have NK := hd9 (KM1.out rfl)
    have ON := hd9 (OKN.out (.inl rfl))
    clear PM1 PO1 PN1 KM1 KO1 KN1 OKN ATk IT
    have c0' : wr.cell? ⟨ba, off + k * 3, none⟩ = some (.int .i64 0) := c0
    have c1' : wr.cell? ⟨ba, off + k * 3 + 1, none⟩ = some (.int .i64 0) := c1
    have c2' : wr.cell? ⟨ba, off + k * 3 + 2, none⟩ = some (.string ⟨#[]⟩) := c2
    clear c0 c1 c2
    go_wp2_with (at_builtin; go_loud (refine wpList_appInt2 rfl _ _ rfl 0 (Z k) _ _ rfl rfl (IZ.out.keep (below2 _ _ _)) (by first | exact blk_new _ _ rfl | exact blk_new _ _ (by simp)) LN.out (TZ.out.keep (below2 _ _ _)) ?_))
    intro v' w3 hir htx
    have IN := hd9 (NX.out ▸ hir)
    have TN := hd9 (NK.out ▸ htx)
    clear hir htx
    go_wp2
    go_roundw
    case rel => exact ⟨k + 1, by omega, by go_num, TN.out, IN.out, ON.out⟩
    case measure => simp [intOf]; omega
   ·obtain ⟨wa, hwa⟩ : ∃ W, wr.alloc (.cells #[.int .i64 0, .int .i64 1, .string t] 64) = W := ⟨_, rfl⟩
    have BA := hd9 (show Below wr.heap.size wr wa from hwa ▸ below1 wr _)
    have KB := hd9 (show wa.heap[wr.heap.size]? = some (.cells #[.int .i64 0, .int .i64 1, .string t] 64 (0, 0)) from hwa ▸ blk_new wr _ rfl)
    have TZ := hd9 (TZ.out.keep BA.out)
    have IZ := hd9 (IZ.out.keep BA.out)
    have EW := hd9 hwa
    have c0' : wr.cell? ⟨ba, off + k * 3, none⟩ = some (.int .i64 0) := c0
    have c1' : wr.cell? ⟨ba, off + k * 3 + 1, none⟩ = some (.int .i64 1) := c1
    have c2' : wr.cell? ⟨ba, off + k * 3 + 2, none⟩ = some (.string t) := c2
    have NN := hd9 (show ¬ (⟨0, 1, t⟩ : It) = noI from fun e => absurd (congrArg It.d e) (show ¬ (1 : Int) = 0 by decide))
    have PO2 := hd9 (fun h => PO1.out NN.out h)
    have PN2 := hd9 (fun h => PN1.out NN.out h)
    have KN2 := hd9 (fun h => KN1.out NN.out h)
    have hok' := hd9 (show OkT ⟨0, 1, t⟩ → t.size ≠ 0 from fun h => h.elim (fun e => absurd e NN.out) id)
    clear hwa c0 c1 c2 IT PM1 PO1 PN1 KM1 KN1
    by_cases ht0 : t.size = 0
    ·have NA := hd9 (show ¬ AllT l from fun h => hok'.out (ATk.out h) ht0)
     obtain ⟨x1, x2⟩ := TB.out NA.out
     have X1 := hd9 x1
     have X2 := hd9 x2
     obtain rfl := empty_of_size ht0
     have BZ := hd9 IZ.out.below
     clear x1 x2 ht0 hok' ATk OKN PO2 PN2 KN2 KO1 NA
     go_upto_region 7 with (fail)
     rw [EW.out]
     have k0 := cellOf KB.out (i := 0) rfl
     have k1 := cellOf KB.out (i := 1) rfl
     have k2 := cellOf KB.out (i := 2) rfl
     go_wp2
     go_ret2
     rw [X2.out]
     exact resZ_nil X1.out BZ.out
    ·have hne := notEmptyB ht0
     have ON := hd9 (OKN.out (.inr ht0))
     clear ht0 hok' ATk OKN
     obtain ⟨s8, n8, c8, rfl⟩ := TZ.out.form
     obtain rfl := TZ.out.slice
     have CC := hd9 (implContains t s8 (K k).length c8 (fun i => (K k).getD i ⟨#[]⟩) wa.heap.size wa (texts_strs TZ.out.texts) (by have := LK.out; omega))
     have CI := hd9 (show Calls Tryz.prog 82 #[.slice s8 (K k).length c8, .string t] wa (fun e w' => e = .returned (.int .i64 (findL (K k) t)) ∧ wa = w') from implIndexF t s8 (K k).length c8 (fun i => (K k).getD i ⟨#[]⟩) wa.heap.size wa (texts_strs TZ.out.texts) (by have := LK.out; omega))
     have FI := hd9 (show 0 ≤ findL (K k) t ↔ IsIn t (fun i => (K k).getD i ⟨#[]⟩) (K k).length from findL_in)
     have FL := hd9 (findL_le (K k) t)
     have FH := hd9 (findL_lt (K k) t)
     go_upto_region 7 with (fail)
     rw [EW.out]
     have k0 := cellOf KB.out (i := 0) rfl
     have k1 := cellOf KB.out (i := 1) rfl
     have k2 := cellOf KB.out (i := 2) rfl
     go_wp2_with fail
     refine CC.out.mono ?_
     rintro e w2 ⟨rfl, rfl⟩
     by_cases hin : 0 ≤ findL (K k) t
     ·rw [bB_yes (FI.out.1 hin)]
      have NX := hd9 (PO2.out hin)
      have NK := hd9 (KO1.out hin)
      have hz1 := FH.out
      have hlk := LK.out
      clear PO2 PN2 KN2 KO1 FI FH CC
      obtain ⟨z, hz⟩ : ∃ z, findL (K k) t = z := ⟨_, rfl⟩
      rw [hz] at CI NX hin hz1 FL
      clear hz
      go_wp2_with fail
      refine CI.out.mono ?_
      rintro e w2 ⟨rfl, rfl⟩
      go_wp2_with (at_builtin; go_loud (refine wpList_appInt2 rfl _ _ rfl (z + 1) (Z k) _ _ rfl rfl (IZ.out.keep (below1 _ _)) (blk_new _ _ rfl) LN.out (TZ.out.keep (below1 _ _)) ?_))
      intro v' w3 hir htx
      have IN := hd9 (NX.out ▸ hir)
      have TN := hd9 (show TxZ w w3 (K (k + 1)) _ from by rw [NK.out]; exact htx)
      clear hir htx
      go_wp2
      go_roundw
      case rel => exact ⟨k + 1, by omega, by go_num, TN.out, IN.out, ON.out⟩
      case measure => simp [intOf]; omega
     ·rw [bB_no (fun q => hin (FI.out.2 q))]
      have NX := hd9 (PN2.out (by omega))
      have NK := hd9 (KN2.out (by omega))
      have FN := hd9 (findL_new (K := K k) (s := t) (by omega))
      have hlk := LK.out
      clear PO2 PN2 KN2 KO1 FI FH FL CC CI hin
      go_wp2_with (at_builtin; go_loud (refine wpList_appTx2 rfl _ _ rfl t (K k) _ _ rfl rfl (TZ.out.keep (below1 _ _)) (blk_new _ _ rfl) LK.out (IZ.out.keep (below1 _ _)) ?_))
      intro v' w3 htx hir hkp
      have TN := hd9 htx
      have IZ3 := hd9 hir
      have KB3 := hd9 (hkp _ _ (blk_old KB.out))
      obtain ⟨s9, n9, c9, rfl⟩ := TN.out.form
      obtain rfl := TN.out.slice
      have CI := hd9 (show Calls Tryz.prog 82 #[.slice s9 (K k ++ [t]).length c9, .string t] w3 (fun e w' => e = .returned (.int .i64 ((K k).length : Int)) ∧ w3 = w') from by
       rw [← FN.out]
       exact implIndexF t s9 (K k ++ [t]).length c9 (fun i => (K k ++ [t]).getD i ⟨#[]⟩) w3.heap.size w3 (texts_strs TN.out.texts) (by simp only [List.length_append, List.length_singleton]; omega))
      clear htx hir hkp k0 k1 k2 FN
      have k2 := cellOf KB3.out (i := 2) rfl
      obtain ⟨KN', hKN⟩ : ∃ X, K k ++ [t] = X := ⟨_, rfl⟩
      rw [hKN] at TN NK CI ⊢
      clear hKN
      go_wp2_with fail
      refine CI.out.mono ?_
      rintro e w2 ⟨rfl, rfl⟩
      go_wp2_with (at_builtin; go_loud (refine wpList_appInt2 rfl _ _ rfl (((K k).length : Int) + 1) (Z k) _ _ rfl rfl (IZ3.out.keep (below1 _ _)) (blk_new _ _ rfl) LN.out (TN.out.keep (below1 _ _)) ?_))
      intro v' w4 hir htx
      have IN := hd9 (NX.out ▸ hir)
      have TN := hd9 (show TxZ w w4 (K (k + 1)) _ from by rw [NK.out]; exact htx)
      clear hir htx
      go_wp2
      go_roundw
      case rel => exact ⟨k + 1, by omega, by go_num, TN.out, IN.out, ON.out⟩
      case measure => simp [intOf]; omega
  ·obtain rfl : k = m := by omega
   have AA := hd9 (AT.out.2 OK.out)
   obtain ⟨x1, x2⟩ := TO.out AA.out
   have X1 := hd9 x1
   have X2 := hd9 x2
   clear x1 x2 TO TB
   go_wp2
   go_ret2
   exact ⟨_, by rw [X2.out]; rfl, by rw [X1.out]; exact IZ.out⟩
end Go.Proofs.YteoalkjngkcheaaGreat

/- ResolvePositions of the program. -/
namespace Go.Proofs.YteoalkjngkcheaaGreat
open Go.RowKit
set_option maxRecDepth 100000
set_option linter.unusedVariables false

theorem implSub_emptySubscript (ai ap an ac al : Option Addr) (ni ci np cp nn cn nc cc nl cl : Nat) (code env : Int) (w : World) : Calls Tryz.prog 57 #[.agg #[.int .i64 0, .slice ai ni ci, .slice ap np cp, .slice an nn cn, .slice ac nc cc, .slice al nl cl, .int .i64 code, .int .i64 env]] w fun e w' => e = .returned (.iface 86 (.agg #[])) ∧ Below w.heap.size w w' := by
 go_enter Tryz.func57, Tryz.ntmps57
 go_wp2
 go_ret
 exact ⟨rfl, below1 _ _⟩
theorem implSub_logicalSubscript (ai ap an ac al : Option Addr) (ni ci np cp nn cn nc cc nl cl : Nat) (code env : Int) (w : World) : Calls Tryz.prog 57 #[.agg #[.int .i64 1, .slice ai ni ci, .slice ap np cp, .slice an nn cn, .slice ac nc cc, .slice al nl cl, .int .i64 code, .int .i64 env]] w fun e w' => e = .returned (.iface 87 (.slice ai ni ci)) ∧ Below w.heap.size w w' := by
 go_enter Tryz.func57, Tryz.ntmps57
 go_wp2
 go_ret
 exact ⟨rfl, below1 _ _⟩
theorem implSub_numberSubscript (ai ap an ac al : Option Addr) (ni ci np cp nn cn nc cc nl cl : Nat) (code env : Int) (w : World) : Calls Tryz.prog 57 #[.agg #[.int .i64 2, .slice ai ni ci, .slice ap np cp, .slice an nn cn, .slice ac nc cc, .slice al nl cl, .int .i64 code, .int .i64 env]] w fun e w' => e = .returned (.iface 88 (.slice ai ni ci)) ∧ Below w.heap.size w w' := by
 go_enter Tryz.func57, Tryz.ntmps57
 go_wp2
 go_ret
 exact ⟨rfl, below1 _ _⟩
theorem implSub_textSubscript (ai ap an ac al : Option Addr) (ni ci np cp nn cn nc cc nl cl : Nat) (code env : Int) (w : World) : Calls Tryz.prog 57 #[.agg #[.int .i64 3, .slice ai ni ci, .slice ap np cp, .slice an nn cn, .slice ac nc cc, .slice al nl cl, .int .i64 code, .int .i64 env]] w fun e w' => e = .returned (.iface 89 (.slice ai ni ci)) ∧ Below w.heap.size w w' := by
 go_enter Tryz.func57, Tryz.ntmps57
 go_wp2
 go_ret
 exact ⟨rfl, below1 _ _⟩
theorem implSub_unsuitedSubscript (kk : Int) (ai ap an ac al : Option Addr) (ni ci np cp nn cn nc cc nl cl : Nat) (code env : Int) (w : World) (h : 4 ≤ kk) : Calls Tryz.prog 57 #[.agg #[.int .i64 kk, .slice ai ni ci, .slice ap np cp, .slice an nn cn, .slice ac nc cc, .slice al nl cl, .int .i64 code, .int .i64 env]] w fun e w' => e = .returned (.iface 90 (.agg #[])) ∧ Below w.heap.size w w' := by
 have h0 : (kk == 0) = false := beq_eq_false_iff_ne.2 (by omega)
 have h1 : (kk == 1) = false := beq_eq_false_iff_ne.2 (by omega)
 have h2 : (kk == 2) = false := beq_eq_false_iff_ne.2 (by omega)
 have h3 : (kk == 3) = false := beq_eq_false_iff_ne.2 (by omega)
 go_enter Tryz.func57, Tryz.ntmps57
 go_wp2
 go_ret
 exact ⟨rfl, below1 _ _⟩
theorem meth_emptySubscript (w : World) : (method 232 86 (.agg #[]) "loop.example/g03406/impl.selectIn").run Tryz.prog w = .ok (101, (.agg #[])) w := by kernel_rfl
theorem meth_logicalSubscript (a : Option Addr) (n c : Nat) (w : World) : (method 232 87 (.slice a n c) "loop.example/g03406/impl.selectIn").run Tryz.prog w = .ok (102, (.slice a n c)) w := by kernel_rfl
theorem meth_numberSubscript (a : Option Addr) (n c : Nat) (w : World) : (method 232 88 (.slice a n c) "loop.example/g03406/impl.selectIn").run Tryz.prog w = .ok (105, (.slice a n c)) w := by kernel_rfl
theorem meth_textSubscript (a : Option Addr) (n c : Nat) (w : World) : (method 232 89 (.slice a n c) "loop.example/g03406/impl.selectIn").run Tryz.prog w = .ok (120, (.slice a n c)) w := by kernel_rfl
theorem meth_unsuitedSubscript (w : World) : (method 232 90 (.agg #[]) "loop.example/g03406/impl.selectIn").run Tryz.prog w = .ok (121, (.agg #[])) w := by kernel_rfl
theorem implEmptySub (n : Int) (v : Value) (w : World) : Calls Tryz.prog 101 #[.agg #[], .int .i64 n, v] w (ResZ [] ⟨#[]⟩ w) := by
 go_enter Tryz.func101, Tryz.ntmps101
 go_wp2
 go_ret2
 exact resZ_nil rfl (below1 _ _)
theorem implUnsuitedSub (n : Int) (v : Value) (w : World) : Calls Tryz.prog 121 #[.agg #[], .int .i64 n, v] w (ResZ [] invB w) := by
 go_enter Tryz.func121, Tryz.ntmps121
 go_wp2
 go_ret2
 exact resZ_nil rfl (below1 _ _)
set_option maxHeartbeats 4000000 in
theorem implResolve (d : Nat) (v : Vec) (val : Value) (n : Int) (nms : List ByteArray) (na : Option Addr) (nc lo hi lo2 hi2 : Nat) (w : World) (hv : VecAt lo hi w d v val) (hhi : hi ≤ w.heap.size) (hsm : Small d v) (hT : TextsAt lo2 hi2 w na nms) (hh2 : hi2 ≤ w.heap.size) (ln2 : nms.length ≤ 1048576) :
  Calls Tryz.prog 45 #[.int .i64 n, .slice na nms.length nc, val] w (ResZ (rsZ n nms v) (rsS n nms v) w) := by
 have C1 := hd9 (fun (w1 : World) (hb : Below w.heap.size w w1) => implIsVector d v val lo hi w1 (hv.below hb hhi) (Nat.le_trans hhi hb.size) hsm)
 obtain ⟨VV, hVV⟩ : ∃ V, v = V := ⟨_, rfl⟩
 rw [hVV] at C1 ⊢
 obtain ⟨kk, items, parts, names, cls, levels, code, env⟩ := v
 obtain ⟨d', ai, ci, ap, cp, an, cn, ac, cc, al, cl, ed, rfl, hI, hN, hC, hL, hP⟩ := vecAt_open hv
 subst ed
 have XY := hd9 (fun (h : ValidV VV) (h2 : NmOk n nms) => (by rw [← hVV] at h ⊢; exact rs_yes h h2 : rsZ n nms VV = rkZ kk items nms n.toNat ∧ rsS n nms VV = rkS kk items))
 have XF := hd9 (fun (h : ValidV VV) => (by rw [← hVV] at h; exact h.1.flat : FlatOk kk items parts.length names cls levels code env))
 have HI := hd9 (fun (W : World) (hb : Below w.heap.size w W) => hI.below hb hhi)
 have HT := hd9 (fun (W : World) (hb : Below w.heap.size w W) => hT.below hb hh2)
 clear hv hI hN hC hL hP hsm hVV hT
 go_enter Tryz.func45, Tryz.ntmps45
 go_wp2_with fail
 obtain ⟨w1, hw1⟩ : ∃ W, w.alloc (.cells #[.int .i64 kk, .slice ai items.length ci, .slice ap parts.length cp, .slice an names.length cn, .slice ac cls.length cc, .slice al levels.length cl, .int .i64 code, .int .i64 env] 31) = W := ⟨_, rfl⟩
 have B1 := hd9 (show Below w.heap.size w w1 from hw1 ▸ below1 w _)
 have KA := hd9 (show w1.heap[w.heap.size]? = some (.cells #[.int .i64 kk, .slice ai items.length ci, .slice ap parts.length cp, .slice an names.length cn, .slice ac cls.length cc, .slice al levels.length cl, .int .i64 code, .int .i64 env] 31 (0, 0)) from hw1 ▸ blk_new w _ rfl)
 rw [hw1]
 clear hw1
 with_reducible refine (C1.out _ B1.out).mono ?_
 rintro e w2 ⟨rfl, b⟩
 have B2 := hd9 (below_then B1.out b)
 have KA := hd9 (blk_below b KA.out)
 clear b C1
 by_cases q : ValidV VV
 ·rw [bB_yes q]
  by_cases h2 : NmOk n nms
  ·have hF := XF.out q
   have hk := hF.h_kind
   have hlen := hF.h_len
   have hit := hF.h_items
   have hnull := hF.h_null
   obtain ⟨x1, x2⟩ := XY.out q h2
   have X1 := hd9 x1
   have X2 := hd9 x2
   obtain ⟨n0, n40, hnm⟩ := h2
   obtain ⟨N, rfl⟩ : ∃ N : Nat, n = N := ⟨n.toNat, by omega⟩
   have hNN : (N : Int).toNat = N := rfl
   rw [hNN] at X1
   have hl40 : ¬ kk = 5 → items.length ≤ 40 := fun h => by unfold lenV at hlen; rw [if_neg h] at hlen; omega
   have HIT := hd9 hit
   clear q x1 x2 hF XF XY hlen hit hNN
   obtain ⟨k0, k1, k2, k3, k4, k5, k6, k7⟩ := vec8 KA.out
   have hnm' : nms.length = 0 ∨ nms.length = N := by omega
   have ht1 : ¬ ((N : Int) < 0) := by omega
   have ht2 : ¬ (40 < (N : Int)) := by omega
   have TXT := hd9 (fun (h3 : kk = 3) (W : World) (hb : Below w.heap.size w W) => implTxtSub items nms ai na ci nc lo hi lo2 hi2 N W (HI.out W hb) (Nat.le_trans hhi hb.size) (HT.out W hb) (Nat.le_trans hh2 hb.size) (hl40 (by omega)) (by omega) hnm' (fun i hi => by have := (HIT.out i hi).1; rw [h3] at this; exact this))
   have NUM := hd9 (fun (h3 : kk = 2) (x : Value) (W : World) (hb : Below w.heap.size w W) => implNumSub items ai ci lo hi N x W (HI.out W hb) (Nat.le_trans hhi hb.size) (by have := hl40 (by omega); omega) (by omega) (fun i hi => numIt_of (HIT.out i hi).1 (by omega)))
   have LGC := hd9 (fun (h3 : kk = 1) (x : Value) (W : World) (hb : Below w.heap.size w W) => implLgcSub items ai ci lo hi N x W (HI.out W hb) (Nat.le_trans hhi hb.size) (hl40 (by omega)) (by omega) (fun i hi => numIt_of (HIT.out i hi).1 (by omega)))
   obtain ⟨ln, hln⟩ : ∃ x, nms.length = x := ⟨_, rfl⟩
   rw [hln] at hnm' TXT ⊢
   obtain ⟨ni, hni⟩ : ∃ x, items.length = x := ⟨_, rfl⟩
   rw [hni] at k1 TXT NUM LGC
   have KA := hd9 (hni ▸ KA.out)
   clear HI HT HIT hl40 hln ln2 hni
   have hlen : ln = 0 ∨ ln ≠ 0 ∧ ln = N := by omega
   rcases hlen with rfl | ⟨hne0, rfl⟩
   ·have hkk : kk = 0 ∨ kk = 1 ∨ kk = 2 ∨ kk = 3 ∨ 4 ≤ kk := by omega
    rcases hkk with rfl | rfl | rfl | rfl | hk4
    ·have X1 := hd9 (X1.out.trans rk_null.1)
     have X2 := hd9 (X2.out.trans (rk_null (names := []) (n := 0)).2)
     clear TXT NUM LGC
     have hm := fun w => meth_emptySubscript w
     go_wp2_with fail
     refine (implSub_emptySubscript ai ap an ac al _ ci _ cp _ cn _ cc _ cl code env _).mono ?_
     rintro e w3 ⟨rfl, b⟩
     have B3 := hd9 (below_then B2.out b)
     clear b k0 k1 k2 k3 k4 k5 k6 k7
     go_wp2_with fail
     refine (implEmptySub _ _ _).mono ?_
     rintro e w4 ⟨v, rfl, hz⟩
     have HZ := hd9 (hz.wide B3.out)
     clear hz hm
     go_wp2
     go_ret2
     exact ⟨_, by rw [X2.out]; rfl, by rw [X1.out]; exact HZ.out⟩
    ·have X1 := hd9 (X1.out.trans rk_lgc.1)
     have X2 := hd9 (X2.out.trans (rk_lgc (names := []) (n := 0)).2)
     clear TXT NUM
     have hm := fun w => meth_logicalSubscript ai ni ci w
     go_wp2_with fail
     refine (implSub_logicalSubscript ai ap an ac al _ ci _ cp _ cn _ cc _ cl code env _).mono ?_
     rintro e w3 ⟨rfl, b⟩
     have B3 := hd9 (below_then B2.out b)
     clear b k0 k1 k2 k3 k4 k5 k6 k7
     go_wp2_with fail
     refine (LGC.out (by first | trivial | rfl) _ _ B3.out).mono ?_
     rintro e w4 ⟨v, rfl, hz⟩
     have HZ := hd9 (hz.wide B3.out)
     clear hz hm
     go_wp2
     go_ret2
     exact ⟨_, by rw [X2.out]; rfl, by rw [X1.out]; exact HZ.out⟩
    ·have X1 := hd9 (X1.out.trans rk_num.1)
     have X2 := hd9 (X2.out.trans (rk_num (names := []) (n := 0)).2)
     clear TXT LGC
     have hm := fun w => meth_numberSubscript ai ni ci w
     go_wp2_with fail
     refine (implSub_numberSubscript ai ap an ac al _ ci _ cp _ cn _ cc _ cl code env _).mono ?_
     rintro e w3 ⟨rfl, b⟩
     have B3 := hd9 (below_then B2.out b)
     clear b k0 k1 k2 k3 k4 k5 k6 k7
     go_wp2_with fail
     refine (NUM.out (by first | trivial | rfl) _ _ B3.out).mono ?_
     rintro e w4 ⟨v, rfl, hz⟩
     have HZ := hd9 (hz.wide B3.out)
     clear hz hm
     go_wp2
     go_ret2
     exact ⟨_, by rw [X2.out]; rfl, by rw [X1.out]; exact HZ.out⟩
    ·have X1 := hd9 (X1.out.trans rk_txt.1)
     have X2 := hd9 (X2.out.trans (rk_txt (names := []) (n := 0)).2)
     clear NUM LGC
     have hm := fun w => meth_textSubscript ai ni ci w
     go_wp2_with fail
     refine (implSub_textSubscript ai ap an ac al _ ci _ cp _ cn _ cc _ cl code env _).mono ?_
     rintro e w3 ⟨rfl, b⟩
     have B3 := hd9 (below_then B2.out b)
     clear b k0 k1 k2 k3 k4 k5 k6 k7
     go_wp2_with fail
     refine (TXT.out (by first | trivial | rfl) _ B3.out).mono ?_
     rintro e w4 ⟨v, rfl, hz⟩
     have HZ := hd9 (hz.wide B3.out)
     clear hz hm
     go_wp2
     go_ret2
     exact ⟨_, by rw [X2.out]; rfl, by rw [X1.out]; exact HZ.out⟩
    ·have X1 := hd9 (X1.out.trans (rk_list hk4).1)
     have X2 := hd9 (X2.out.trans (rk_list hk4 (names := []) (n := 0)).2)
     clear NUM LGC TXT
     have hm := fun w => meth_unsuitedSubscript w
     go_wp2_with fail
     refine (implSub_unsuitedSubscript kk ai ap an ac al _ ci _ cp _ cn _ cc _ cl code env _ hk4).mono ?_
     rintro e w3 ⟨rfl, b⟩
     have B3 := hd9 (below_then B2.out b)
     clear b k0 k1 k2 k3 k4 k5 k6 k7
     go_wp2_with fail
     refine (implUnsuitedSub _ _ _).mono ?_
     rintro e w4 ⟨v, rfl, hz⟩
     have HZ := hd9 (hz.wide B3.out)
     clear hz hm
     go_wp2
     go_ret2
     exact ⟨_, by rw [X2.out]; rfl, by rw [X1.out]; exact HZ.out⟩
   ·have hkk : kk = 0 ∨ kk = 1 ∨ kk = 2 ∨ kk = 3 ∨ 4 ≤ kk := by omega
    rcases hkk with rfl | rfl | rfl | rfl | hk4
    ·have X1 := hd9 (X1.out.trans rk_null.1)
     have X2 := hd9 (X2.out.trans (rk_null (names := []) (n := 0)).2)
     clear TXT NUM LGC
     have hm := fun w => meth_emptySubscript w
     go_wp2_with fail
     refine (implSub_emptySubscript ai ap an ac al _ ci _ cp _ cn _ cc _ cl code env _).mono ?_
     rintro e w3 ⟨rfl, b⟩
     have B3 := hd9 (below_then B2.out b)
     clear b k0 k1 k2 k3 k4 k5 k6 k7
     go_wp2_with fail
     refine (implEmptySub _ _ _).mono ?_
     rintro e w4 ⟨v, rfl, hz⟩
     have HZ := hd9 (hz.wide B3.out)
     clear hz hm
     go_wp2
     go_ret2
     exact ⟨_, by rw [X2.out]; rfl, by rw [X1.out]; exact HZ.out⟩
    ·have X1 := hd9 (X1.out.trans rk_lgc.1)
     have X2 := hd9 (X2.out.trans (rk_lgc (names := []) (n := 0)).2)
     clear TXT NUM
     have hm := fun w => meth_logicalSubscript ai ni ci w
     go_wp2_with fail
     refine (implSub_logicalSubscript ai ap an ac al _ ci _ cp _ cn _ cc _ cl code env _).mono ?_
     rintro e w3 ⟨rfl, b⟩
     have B3 := hd9 (below_then B2.out b)
     clear b k0 k1 k2 k3 k4 k5 k6 k7
     go_wp2_with fail
     refine (LGC.out (by first | trivial | rfl) _ _ B3.out).mono ?_
     rintro e w4 ⟨v, rfl, hz⟩
     have HZ := hd9 (hz.wide B3.out)
     clear hz hm
     go_wp2
     go_ret2
     exact ⟨_, by rw [X2.out]; rfl, by rw [X1.out]; exact HZ.out⟩
    ·have X1 := hd9 (X1.out.trans rk_num.1)
     have X2 := hd9 (X2.out.trans (rk_num (names := []) (n := 0)).2)
     clear TXT LGC
     have hm := fun w => meth_numberSubscript ai ni ci w
     go_wp2_with fail
     refine (implSub_numberSubscript ai ap an ac al _ ci _ cp _ cn _ cc _ cl code env _).mono ?_
     rintro e w3 ⟨rfl, b⟩
     have B3 := hd9 (below_then B2.out b)
     clear b k0 k1 k2 k3 k4 k5 k6 k7
     go_wp2_with fail
     refine (NUM.out (by first | trivial | rfl) _ _ B3.out).mono ?_
     rintro e w4 ⟨v, rfl, hz⟩
     have HZ := hd9 (hz.wide B3.out)
     clear hz hm
     go_wp2
     go_ret2
     exact ⟨_, by rw [X2.out]; rfl, by rw [X1.out]; exact HZ.out⟩
    ·have X1 := hd9 (X1.out.trans rk_txt.1)
     have X2 := hd9 (X2.out.trans (rk_txt (names := []) (n := 0)).2)
     clear NUM LGC
     have hm := fun w => meth_textSubscript ai ni ci w
     go_wp2_with fail
     refine (implSub_textSubscript ai ap an ac al _ ci _ cp _ cn _ cc _ cl code env _).mono ?_
     rintro e w3 ⟨rfl, b⟩
     have B3 := hd9 (below_then B2.out b)
     clear b k0 k1 k2 k3 k4 k5 k6 k7
     go_wp2_with fail
     refine (TXT.out (by first | trivial | rfl) _ B3.out).mono ?_
     rintro e w4 ⟨v, rfl, hz⟩
     have HZ := hd9 (hz.wide B3.out)
     clear hz hm
     go_wp2
     go_ret2
     exact ⟨_, by rw [X2.out]; rfl, by rw [X1.out]; exact HZ.out⟩
    ·have X1 := hd9 (X1.out.trans (rk_list hk4).1)
     have X2 := hd9 (X2.out.trans (rk_list hk4 (names := []) (n := 0)).2)
     clear NUM LGC TXT
     have hm := fun w => meth_unsuitedSubscript w
     go_wp2_with fail
     refine (implSub_unsuitedSubscript kk ai ap an ac al _ ci _ cp _ cn _ cc _ cl code env _ hk4).mono ?_
     rintro e w3 ⟨rfl, b⟩
     have B3 := hd9 (below_then B2.out b)
     clear b k0 k1 k2 k3 k4 k5 k6 k7
     go_wp2_with fail
     refine (implUnsuitedSub _ _ _).mono ?_
     rintro e w4 ⟨v, rfl, hz⟩
     have HZ := hd9 (hz.wide B3.out)
     clear hz hm
     go_wp2
     go_ret2
     exact ⟨_, by rw [X2.out]; rfl, by rw [X1.out]; exact HZ.out⟩
  ·have XX := hd9 (rs_names q h2)
   obtain ⟨ln, hln⟩ : ∃ x, nms.length = x := ⟨_, rfl⟩
   have hno : ¬ (0 ≤ n ∧ n ≤ 40 ∧ (ln = 0 ∨ (ln : Int) = n)) := by rw [← hln]; exact h2
   rw [hln]
   clear q XY XF HI HT h2 hln ln2
   have hcase : n < 0 ∨ (¬ n < 0 ∧ 40 < n) ∨ (¬ n < 0 ∧ ¬ 40 < n ∧ 0 < ln ∧ ¬ (ln : Int) = n) := by omega
   rcases hcase with h0 | ⟨h0, h1⟩ | ⟨h0, h1, h3, h4⟩
   ·clear hno
    go_wp2
    go_ret2
    rw [XX.out.2]
    exact resZ_nil XX.out.1 B2.out
   ·clear hno
    go_wp2
    go_ret2
    rw [XX.out.2]
    exact resZ_nil XX.out.1 B2.out
   ·have h3' : (0 : Int) < (ln : Int) := by omega
    have h4' : ((ln : Int) != n) = true := bne_iff_ne.2 h4
    clear hno
    go_wp2
    go_ret2
    rw [XX.out.2]
    exact resZ_nil XX.out.1 B2.out
 ·rw [bB_no q]
  have XX := hd9 (rs_bad (n := n) (names := nms) q)
  clear q XY XF
  go_wp2
  go_ret2
  rw [XX.out.2]
  exact resZ_nil XX.out.1 B2.out
end Go.Proofs.YteoalkjngkcheaaGreat

/- Laws on two vectors: what a region that calls on both keeps. -/
namespace Go.Proofs.YteoalkjngkcheaaGreat
set_option maxRecDepth 100000
open Go.RowKit
set_option linter.unusedVariables false

/-- A vector that may be read. -/
structure VatH (d : Nat) (v : Vec) (y : Value) (w : World) : Prop where
 out : VecAt 0 w.heap.size w d v y
theorem VatH.keep {d : Nat} {v : Vec} {y : Value} {w w1 : World} (h : VatH d v y w) (hb : Below w.heap.size w w1) : VatH d v y w1 := ⟨VecAt.wide (Nat.le_refl _) hb.size _ _ _ (h.out.below hb (Nat.le_refl _))⟩
theorem ResV.vatH {d : Nat} {v : Vec} {y : Value} {lo : Nat} {w : World} (h : Own d v y lo w.heap.size w) : VatH d v y w := ⟨h.vat (Nat.le_refl _)⟩
/-- A vector of one's own in a range, kept. -/
structure OwnH (d : Nat) (V : Vec) (y : Value) (lo hi : Nat) (w : World) : Prop where
 own : Own d V y lo hi w
 hh : hi ≤ w.heap.size
theorem OwnH.keep {d : Nat} {V : Vec} {y : Value} {lo hi : Nat} {w w1 : World} (h : OwnH d V y lo hi w) (hb : Below w.heap.size w w1) : OwnH d V y lo hi w1 := ⟨h.own.below hb h.hh, Nat.le_trans h.hh hb.size⟩
theorem Own.rowO {d : Nat} {V : Vec} {y : Value} {lo hi g : Nat} {c : Array Value} {w : World} (h : Own d V y lo hi w) (hg : g < lo ∨ hi ≤ g) : Own d V y lo hi (w.setRow g c) := by
 obtain ⟨F, q1, q2, q3⟩ := h.out
 exact ⟨F, q1.kept _ _ _ _ (fun b hb => row_old rfl (by have := q3 b hb; omega)), q2, q3⟩
/-- A vector that was made and put into a variable of its own. -/
structure MadeU (V : Vec) (wk wx : World) (g : Nat) (C : Array Value) : Prop where
 blk : wx.heap[g]? = some (.cells C 31 (0, 0))
 own : Own 1 V (.agg C) wk.heap.size wx.heap.size wx
 below : Below wk.heap.size wk wx
 lo : wk.heap.size ≤ g
theorem MadeU.cells {V : Vec} {wk wx : World} {g : Nat} {C : Array Value} (h : MadeU V wk wx g C) : ∃ (k : Int) (a1 : Option Addr) (n1 m1 : Nat) (a2 : Option Addr) (n2 m2 : Nat) (a3 : Option Addr) (n3 m3 : Nat) (a4 : Option Addr) (n4 m4 : Nat) (a5 : Option Addr) (n5 m5 : Nat) (code env : Int), C = #[.int .i64 k, .slice a1 n1 m1, .slice a2 n2 m2, .slice a3 n3 m3, .slice a4 n4 m4, .slice a5 n5 m5, .int .i64 code, .int .i64 env] := by
 obtain ⟨k, a1, n1, m1, a2, n2, m2, a3, n3, m3, a4, n4, m4, a5, n5, m5, c, e, h'⟩ := h.own.agg
 simp only [Value.agg.injEq] at h'
 exact ⟨k, a1, n1, m1, a2, n2, m2, a3, n3, m3, a4, n4, m4, a5, n5, m5, c, e, h'⟩
section
variable {P : Program} {ops : Array Oper} {Q : Exit → Act → World → Prop} {S : World → Prop}
variable {r : List (Nat × Bool)} {a : Act} {e : List (Nat × Value)} {w : World} {i d : Nat} {g : Option (Nat × Bool)} {v : Value}
/-- A part of a call's several results. -/
theorem run_extract {x : Operand} {k : Nat} {vs : Array Value} (ho : opAt ops i = some (some d, .extract x k, g)) (hd : Nat.blt d a.tmps.size = true) (hw : wantE ops a e g = some true)
  (hx : lookO a e x = .tuple vs) (hv : vs[k]? = some v) (h : RunE P ops Q S r a ((d, v) :: e) w) : RunE P ops Q S ((i, true) :: r) a e w :=
 run_yield ho hd hw (fun o w' h1 _ => by
  unfold execOp; rw [h1]; simp only [hx]
  refine run_v ?_
  unfold Instr.extract
  simp only [hv]
  rfl) h
end
/-- A mark that goes on from k. -/
theorem markOwnK (d : Nat) (V : Vec) (y : Value) (k : Nat) (lo hi : Nat) (w : World) (h : Own d V y lo hi w) (hh : hi ≤ w.heap.size) (hs : Small d V) (hk : 1 ≤ k) (hc : k + cntM d V ≤ 8000000) :
  Calls Tryz.prog 9 #[y, .int .i64 k] w fun e w' => e = .returned (.int .i64 ((k + cntM d V : Nat) : Int)) ∧ Within lo hi w w' := by
 obtain ⟨F, h1, h2, h3⟩ := h.out
 refine (markVec d V y k F w h1 h2 (fun b hb => by have := h3 b hb; omega) hs hk hc).mono ?_
 rintro e w' ⟨rfl, ho, t⟩
 exact ⟨rfl, t.within h3⟩
end Go.Proofs.YteoalkjngkcheaaGreat

/- resolveIn, elementAt: the program. -/
namespace Go.Proofs.YteoalkjngkcheaaGreat
open Go.RowKit
set_option maxRecDepth 100000
set_option linter.unusedVariables false

theorem implLenW (d : Nat) (v : Vec) (val : Value) (lo hi : Nat) (w : World) (hv : VecAt lo hi w d v val) (hsm : Small d v) :
  Calls Tryz.prog 46 #[val] w fun e w' => e = .returned (.int .i64 ((lengthV v : Nat) : Int)) ∧ Below w.heap.size w w' := by
 obtain ⟨k, items, parts, names, cls, levels, code, env⟩ := v
 obtain ⟨d', ai, ci, ap, cp, an, cn, ac, cc, al, cl, ed, rfl, _⟩ := vecAt_open hv
 subst ed
 exact implLen k ai ap an ac al items.length ci parts.length cp names.length cn cls.length cc levels.length cl code env w hsm.1 hsm.2.1
set_option maxHeartbeats 4000000 in
theorem implResolveIn (d d2 : Nat) (v s : Vec) (val vals : Value) (lo hi : Nat) (w : World) (hv : VecAt lo hi w d v val) (hs : VecAt lo hi w d2 s vals) (hhi : hi ≤ w.heap.size) (hsm : Small d v) (hsm2 : Small d2 s) :
  Calls Tryz.prog 23 #[val, vals] w (ResZ (rvZ v s) (rvS v s) w) := by
 have C1 := hd9 (fun (w1 : World) (hb : Below w.heap.size w w1) => implIsVector d v val lo hi w1 (hv.below hb hhi) (Nat.le_trans hhi hb.size) hsm)
 have LN := hd9 (fun (W : World) (hb : Below w.heap.size w W) => implLenW d v val lo hi W (hv.below hb hhi) hsm)
 obtain ⟨VV, hVV⟩ : ∃ V, v = V := ⟨_, rfl⟩
 rw [hVV] at C1 LN ⊢
 obtain ⟨kk, items, parts, names, cls, levels, code, env⟩ := v
 obtain ⟨d', ai, ci, ap, cp, an, cn, ac, cc, al, cl, ed, rfl, hI, hN, hC, hL, hP⟩ := vecAt_open hv
 subst ed
 have XK : kindV VV = kk := by rw [← hVV]; rfl
 have XM : namV VV = names := by rw [← hVV]; rfl
 have ln : names.length ≤ 1048576 := hsm.2.2.1
 have CR := hd9 (fun (W : World) (hb : Below w.heap.size w W) => implResolve d2 s vals (lengthV VV : Int) names an cn lo hi lo hi W (hs.below hb hhi) (Nat.le_trans hhi hb.size) hsm2 (hN.below hb hhi) (Nat.le_trans hhi hb.size) ln)
 have RV := hd9 (fun h h5 => (by have := rv_yes (v := VV) (s := s) h h5; rw [XM] at this; exact this : rvZ VV s = rsZ (lengthV VV : Int) names s ∧ rvS VV s = rsS (lengthV VV : Int) names s))
 obtain ⟨sk, sa1, sn1, sm1, sa2, sn2, sm2, sa3, sn3, sm3, sa4, sn4, sm4, sa5, sn5, sm5, sc, se, rfl⟩ := hs.agg
 obtain ⟨L, hL'⟩ : ∃ L, lengthV VV = L := ⟨_, rfl⟩
 rw [hL'] at LN CR RV
 obtain ⟨Z, hZ⟩ : ∃ Z, rsZ (L : Int) names s = Z := ⟨_, rfl⟩
 obtain ⟨R, hR⟩ : ∃ R, rsS (L : Int) names s = R := ⟨_, rfl⟩
 rw [hZ, hR] at CR RV
 clear hv hs hI hN hC hL hP hsm hsm2 hVV hL' hZ hR ln
 go_enter Tryz.func23, Tryz.ntmps23
 go_wp2_with fail
 obtain ⟨w1, hw1⟩ : ∃ W, (w.alloc (.cells #[.int .i64 kk, .slice ai items.length ci, .slice ap parts.length cp, .slice an names.length cn, .slice ac cls.length cc, .slice al levels.length cl, .int .i64 code, .int .i64 env] 31)).alloc (.cells #[.int .i64 sk, .slice sa1 sn1 sm1, .slice sa2 sn2 sm2, .slice sa3 sn3 sm3, .slice sa4 sn4 sm4, .slice sa5 sn5 sm5, .int .i64 sc, .int .i64 se] 31) = W := ⟨_, rfl⟩
 have hsz : (w.alloc (.cells #[.int .i64 kk, .slice ai items.length ci, .slice ap parts.length cp, .slice an names.length cn, .slice ac cls.length cc, .slice al levels.length cl, .int .i64 code, .int .i64 env] 31)).heap.size = w.heap.size + 1 := by simp
 have B1 := hd9 (show Below w.heap.size w w1 from hw1 ▸ (below1 w _).alloc (by simp) _)
 have KA := hd9 (show w1.heap[w.heap.size]? = some (.cells #[.int .i64 kk, .slice ai items.length ci, .slice ap parts.length cp, .slice an names.length cn, .slice ac cls.length cc, .slice al levels.length cl, .int .i64 code, .int .i64 env] 31 (0, 0)) from hw1 ▸ blk_old (blk_new w _ rfl))
 have KB := hd9 (show w1.heap[w.heap.size + 1]? = some (.cells #[.int .i64 sk, .slice sa1 sn1 sm1, .slice sa2 sn2 sm2, .slice sa3 sn3 sm3, .slice sa4 sn4 sm4, .slice sa5 sn5 sm5, .int .i64 sc, .int .i64 se] 31 (0, 0)) from hw1 ▸ hsz ▸ blk_new (w.alloc (.cells #[.int .i64 kk, .slice ai items.length ci, .slice ap parts.length cp, .slice an names.length cn, .slice ac cls.length cc, .slice al levels.length cl, .int .i64 code, .int .i64 env] 31)) (.cells #[.int .i64 sk, .slice sa1 sn1 sm1, .slice sa2 sn2 sm2, .slice sa3 sn3 sm3, .slice sa4 sn4 sm4, .slice sa5 sn5 sm5, .int .i64 sc, .int .i64 se] 31) rfl)
 rw [hw1]
 clear hw1 hsz
 with_reducible refine (C1.out _ B1.out).mono ?_
 rintro e w2 ⟨rfl, b⟩
 have B2 := hd9 (below_then B1.out b)
 have KA := hd9 (blk_below b KA.out)
 have KB := hd9 (blk_below b KB.out)
 clear b C1
 by_cases q : ValidV VV
 ·rw [bB_yes q]
  by_cases h5 : kk = 5
  ·have XX := hd9 (rv_fun (s := s) q (XK.trans h5))
   subst h5
   clear q XK XM RV LN CR
   obtain ⟨k0, k1, k2, k3, k4, k5, k6, k7⟩ := vec8 KA.out
   go_wp2
   go_ret2
   rw [XX.out.2]
   exact resZ_nil XX.out.1 B2.out
  ·have XX := hd9 (RV.out q (fun e => h5 (XK ▸ e)))
   have h5b : (kk == 5) = false := beq_eq_false_iff_ne.2 h5
   have LN := hd9 (fun (W : World) (hb : Below w2.heap.size w2 W) => LN.out W (below_then B2.out hb))
   have CR := hd9 (fun (W : World) (hb : Below w2.heap.size w2 W) => CR.out W (below_then B2.out hb))
   clear q XK XM RV h5
   obtain ⟨k0, k1, k2, k3, k4, k5, k6, k7⟩ := vec8 KA.out
   go_upto_region 5 with (fail)
   clear k0 k1 k2 k3 k4 k5 k6 k7
   have H := hd9 (show HeldC w2 w2 ([(w.heap.size, 31, #[.int .i64 kk, .slice ai items.length ci, .slice ap parts.length cp, .slice an names.length cn, .slice ac cls.length cc, .slice al levels.length cl, .int .i64 code, .int .i64 env]), (w.heap.size + 1, 31, #[.int .i64 sk, .slice sa1 sn1 sm1, .slice sa2 sn2 sm2, .slice sa3 sn3 sm3, .slice sa4 sn4 sm4, .slice sa5 sn5 sm5, .int .i64 sc, .int .i64 se])]) from heldC_two (Below.refl _ _) KA.out KB.out)
   refine run_regionT (ops := (opsOf Tryz.f23 5)) (S := fun w' => HeldC w2 w' ([(w.heap.size, 31, #[.int .i64 kk, .slice ai items.length ci, .slice ap parts.length cp, .slice an names.length cn, .slice ac cls.length cc, .slice al levels.length cl, .int .i64 code, .int .i64 env]), ((w.heap.size + 1), 31, #[.int .i64 sk, .slice sa1 sn1 sm1, .slice sa2 sn2 sm2, .slice sa3 sn3 sm3, .slice sa4 sn4 sm4, .slice sa5 sn5 sm5, .int .i64 sc, .int .i64 se])])) (.leaf [(0, true), (2, true), (3, true), (4, true), (1, false), (5, false), (6, true), (7, true), (8, true), (9, true)]) (by kernel_rfl) (by kernel_rfl) (by kernel_rfl) (by kernel_rfl) (by kernel_rfl) (fun _ _ _ _ _ h => h) (heldC_drew H.out) ?_
   have H := hd9 (heldC_drew H.out)
   refine runC_vec (b := w.heap.size) (show opAt (opsOf Tryz.f23 5) 0 = some (some 14, .load 31 (.tmp 2), none) from by kernel_rfl) (by kernel_rfl) (by kernel_rfl) (by kernel_rfl) mh9 ?_
   refine runC_partV (b := w.heap.size) (by kernel_rfl) (show opAt (opsOf Tryz.f23 5) 2 = some (some 16, .fieldAddr 31 (.tmp 2) 3, none) from by kernel_rfl) (by kernel_rfl) (by kernel_rfl) (by kernel_rfl) ?_
   refine runC_cell (b := w.heap.size) (j := 3) (v := .slice an names.length cn) load_strs (show opAt (opsOf Tryz.f23 5) 3 = some (some 17, .load 24 (.tmp 16), none) from by kernel_rfl) (by kernel_rfl) (by kernel_rfl) (by kernel_rfl) mh9 rfl ?_
   refine runC_vec (b := (w.heap.size + 1)) (show opAt (opsOf Tryz.f23 5) 4 = some (some 18, .load 31 (.tmp 3), none) from by kernel_rfl) (by kernel_rfl) (by kernel_rfl) (by kernel_rfl) (mt9 mh9) ?_
   refine run_call (args := [.agg #[.int .i64 kk, .slice ai items.length ci, .slice ap parts.length cp, .slice an names.length cn, .slice ac cls.length cc, .slice al levels.length cl, .int .i64 code, .int .i64 env]]) (show opAt (opsOf Tryz.f23 5) 1 = some (some 15, .call { callee := .value (.func 46), args := [(.tmp 14)].toArray, argTypes := [31].toArray }, none) from by kernel_rfl) (by kernel_rfl) (by kernel_rfl) (by kernel_rfl) (by kernel_rfl) ?_
   refine (LN.out _ H.out.1).mono ?_
   rintro en rw1 ⟨rfl, hb⟩
   refine ⟨_, rfl, heldC_call H.out hb, ?_⟩
   have H := hd9 (heldC_call H.out hb)
   clear hb
   refine run_call (args := [.int .i64 ((L : Int)), .slice an names.length cn, .agg #[.int .i64 sk, .slice sa1 sn1 sm1, .slice sa2 sn2 sm2, .slice sa3 sn3 sm3, .slice sa4 sn4 sm4, .slice sa5 sn5 sm5, .int .i64 sc, .int .i64 se]]) (show opAt (opsOf Tryz.f23 5) 5 = some (some 19, .call { callee := .value (.func 45), args := [(.tmp 15), (.tmp 17), (.tmp 18)].toArray, argTypes := [3, 24, 31].toArray }, none) from by kernel_rfl) (by kernel_rfl) (by kernel_rfl) (by kernel_rfl) (by kernel_rfl) ?_
   refine (CR.out _ H.out.1).mono ?_
   rintro en rw2 ⟨v5, rfl, hz⟩
   refine ⟨_, rfl, heldC_call H.out hz.below, ?_⟩
   have BH := hd9 H.out.1
   have HZ := hd9 hz
   have H := hd9 (heldC_call H.out hz.below)
   clear hz
   refine run_extract (vs := #[v5, .string R]) (v := v5) (show opAt (opsOf Tryz.f23 5) 6 = some (some 20, .extract (.tmp 19) 0, none) from by kernel_rfl) (by kernel_rfl) (by kernel_rfl) (by kernel_rfl) (by rfl) ?_
   refine run_extract (vs := #[v5, .string R]) (v := .string R) (show opAt (opsOf Tryz.f23 5) 7 = some (some 21, .extract (.tmp 19) 1, none) from by kernel_rfl) (by kernel_rfl) (by kernel_rfl) (by kernel_rfl) (by rfl) ?_
   refine run_asg (v := v5) (show opAt (opsOf Tryz.f23 5) 8 = some (some 4, .assign (.tmp 20), none) from by kernel_rfl) (by kernel_rfl) (by kernel_rfl) (by kernel_rfl) ?_
   refine run_asg (v := .string R) (show opAt (opsOf Tryz.f23 5) 9 = some (some 5, .assign (.tmp 21), none) from by kernel_rfl) (by kernel_rfl) (by kernel_rfl) (by kernel_rfl) ?_
   refine run_done ?_
   simp only [putAll, Act.put, List.setIfInBounds_toArray, List.set_cons_zero, List.set_cons_succ]
   have HW := hd9 (HZ.out.wide (below_then B2.out BH.out))
   go_wp2
   go_ret2
   exact ⟨_, by rw [XX.out.2]; rfl, by rw [XX.out.1]; exact HW.out⟩
 ·rw [bB_no q]
  have XX := hd9 (rv_bad (s := s) q)
  clear q XK XM RV LN CR
  go_wp2
  go_ret2
  rw [XX.out.2]
  exact resZ_nil XX.out.1 B2.out
end Go.Proofs.YteoalkjngkcheaaGreat

/- elementAt of atomic vectors: the program. -/
namespace Go.Proofs.YteoalkjngkcheaaGreat
open Go.RowKit
set_option maxRecDepth 100000
set_option linter.unusedVariables false

end Go.Proofs.YteoalkjngkcheaaGreat

/- ElementOf: the program. -/
namespace Go.Proofs.YteoalkjngkcheaaGreat
open Go.RowKit
set_option maxRecDepth 100000
set_option linter.unusedVariables false

set_option maxHeartbeats 4000000 in
theorem implIsPos (d : Nat) (v : Vec) (val : Value) (lo hi : Nat) (w : World) (hv : VecAt lo hi w d v val) (hhi : hi ≤ w.heap.size) (hsm : Small d v) (z : Int) :
  Calls Tryz.prog 47 #[val, .int .i64 z] w fun e w' => e = .returned (.bool (bB (1 ≤ z ∧ z ≤ (lengthV v : Int)))) ∧ Below w.heap.size w w' := by
 have LN := hd9 (fun (W : World) (hb : Below w.heap.size w W) => implLenW d v val lo hi W (hv.below hb hhi) hsm)
 obtain ⟨L, hL⟩ : ∃ L, lengthV v = L := ⟨_, rfl⟩
 rw [hL] at LN ⊢
 obtain ⟨vk, va1, vn1, vm1, va2, vn2, vm2, va3, vn3, vm3, va4, vn4, vm4, va5, vn5, vm5, vc, ve, rfl⟩ := hv.agg
 clear hv hhi hsm hL
 by_cases h1 : 1 ≤ z
 ·go_enter Tryz.func47, Tryz.ntmps47
  go_wp2_with fail
  refine (LN.out _ (below1 _ _)).mono ?_
  rintro e w1 ⟨rfl, b⟩
  have B1 := hd9 (below_then (below1 w _) b)
  clear b LN
  by_cases h2 : z ≤ (L : Int)
  ·have XX := hd9 (bB_yes (show 1 ≤ z ∧ z ≤ (L : Int) from ⟨h1, h2⟩))
   go_wp2
   go_ret
   exact ⟨by rw [XX.out]; rfl, B1.out⟩
  ·have XX := hd9 (bB_no (show ¬ (1 ≤ z ∧ z ≤ (L : Int)) from fun e => h2 e.2))
   go_wp2
   go_ret
   exact ⟨by rw [XX.out]; first | rfl | (show Ending.returned (Value.bool (decide (z ≤ (L : Int)))) = _; rw [decide_eq_false (by omega)]), B1.out⟩
 ·have XX := hd9 (bB_no (show ¬ (1 ≤ z ∧ z ≤ (L : Int)) from fun e => h1 e.1))
  clear LN
  go_enter Tryz.func47, Tryz.ntmps47
  go_wp2
  go_ret
  exact ⟨by rw [XX.out]; rfl, below1 _ _⟩
end Go.Proofs.YteoalkjngkcheaaGreat

/- The program's last look at a result: withinLimits. -/
namespace Go.Proofs.YteoalkjngkcheaaGreat
set_option maxRecDepth 100000
open Go.RowKit
set_option linter.unusedVariables false
set_option maxHeartbeats 4000000 in
theorem implFit (d : Nat) (v : Vec) (val : Value) (lo hi : Nat) (w : World) (hv : VecAt lo hi w d v val) (hhi : hi ≤ w.heap.size) (hsm : Small d v) :
  Calls Tryz.prog 24 #[val] w fun e w' => Below w.heap.size w w' ∧ ((ValidV v ∧ e = .returned (.tuple #[val, .string ⟨#[]⟩])) ∨ (¬ ValidV v ∧ e = .returned (.tuple #[.agg #[.int .i64 0, .slice none 0 0, .slice none 0 0, .slice none 0 0, .slice none 0 0, .slice none 0 0, .int .i64 0, .int .i64 0], .string bigB]))) := by
 have C1 := hd9 (fun (w1 : World) (hb : Below w.heap.size w w1) => implIsVector d v val lo hi w1 (hv.below hb hhi) (Nat.le_trans hhi hb.size) hsm)
 obtain ⟨VV, hVV⟩ : ∃ V, v = V := ⟨_, rfl⟩
 rw [hVV] at C1 ⊢
 obtain ⟨kk, items, parts, names, cls, levels, code, env⟩ := v
 obtain ⟨d', ai, ci, ap, cp, an, cn, ac, cc, al, cl, ed, rfl, hI, hN, hC, hL, hP⟩ := vecAt_open hv
 clear hv hI hN hC hL hP hsm ed hVV
 go_enter Tryz.func24, Tryz.ntmps24
 go_wp2_with fail
 obtain ⟨w1, hw1⟩ : ∃ W, (w.alloc (.cells #[.int .i64 kk, .slice ai items.length ci, .slice ap parts.length cp, .slice an names.length cn, .slice ac cls.length cc, .slice al levels.length cl, .int .i64 code, .int .i64 env] 31)).alloc (.cells #[.int .i64 0, .slice none 0 0, .slice none 0 0, .slice none 0 0, .slice none 0 0, .slice none 0 0, .int .i64 0, .int .i64 0] 31) = W := ⟨_, rfl⟩
 have hsz : (w.alloc (.cells #[.int .i64 kk, .slice ai items.length ci, .slice ap parts.length cp, .slice an names.length cn, .slice ac cls.length cc, .slice al levels.length cl, .int .i64 code, .int .i64 env] 31)).heap.size = w.heap.size + 1 := by simp
 have B1 := hd9 (show Below w.heap.size w w1 from hw1 ▸ (below1 w _).alloc (by simp) _)
 have KA := hd9 (show w1.heap[w.heap.size]? = some (.cells #[.int .i64 kk, .slice ai items.length ci, .slice ap parts.length cp, .slice an names.length cn, .slice ac cls.length cc, .slice al levels.length cl, .int .i64 code, .int .i64 env] 31 (0, 0)) from hw1 ▸ blk_old (blk_new w _ rfl))
 have KR := hd9 (show w1.heap[w.heap.size + 1]? = some (.cells #[.int .i64 0, .slice none 0 0, .slice none 0 0, .slice none 0 0, .slice none 0 0, .slice none 0 0, .int .i64 0, .int .i64 0] 31 (0, 0)) from hw1 ▸ hsz ▸ blk_new (w.alloc (.cells #[.int .i64 kk, .slice ai items.length ci, .slice ap parts.length cp, .slice an names.length cn, .slice ac cls.length cc, .slice al levels.length cl, .int .i64 code, .int .i64 env] 31)) (.cells #[.int .i64 0, .slice none 0 0, .slice none 0 0, .slice none 0 0, .slice none 0 0, .slice none 0 0, .int .i64 0, .int .i64 0] 31) rfl)
 rw [hw1]
 clear hw1 hsz
 with_reducible refine (C1.out _ B1.out).mono ?_
 rintro e w2 ⟨rfl, b⟩
 have B2 := hd9 (below_then B1.out b)
 have KA2 := hd9 (blk_below b KA.out)
 have KR2 := hd9 (blk_below b KR.out)
 clear b
 obtain ⟨k0, k1, k2, k3, k4, k5, k6, k7⟩ := vec8 KA2.out
 obtain ⟨z0, z1, z2, z3, z4, z5, z6, z7⟩ := vec8 KR2.out
 obtain ⟨f0, f1, f2, f3, f4, f5, f6, f7⟩ := free8 KR2.out
 by_cases q : ValidV VV
 ·rw [bB_yes q]
  have Q := hd9 q
  clear q
  go_wp2
  exact vec_endS rfl rfl rfl rfl KR2.out ⟨put8_below B2.out (Nat.le_succ _), .inl ⟨Q.out, rfl⟩⟩
 ·rw [bB_no q]
  have Q := hd9 q
  clear q
  go_wp2
  exact vec_endS rfl rfl rfl rfl KR2.out ⟨put8_below B2.out (Nat.le_succ _), .inr ⟨Q.out, rfl⟩⟩
end Go.Proofs.YteoalkjngkcheaaGreat

/- Elements at positions, and those beyond: the program. -/
namespace Go.Proofs.YteoalkjngkcheaaGreat
open Go.RowKit
set_option maxRecDepth 100000
set_option linter.unusedVariables false

theorem Small.moreS : ∀ (d : Nat) (v : Vec), Small d v → Small (d + 1) v
 | 0, _, h => h.elim
 | d + 1, .mk k items parts names cls levels code env, h => by
  unfold Small at h ⊢
  obtain ⟨h1, h2, h3, h4, h5, h6, h7, h8, h9, h10⟩ := h
  exact ⟨h1, h2, h3, h4, h5, h6, h7, h8, h9, fun p hp => Small.moreS d p (h10 p hp)⟩
def nzL (idx : List Nat) : List Int := idx.map (fun (i : Nat) => (i : Int))
theorem nzL_len (idx : List Nat) : (nzL idx).length = idx.length := by unfold nzL; simp
theorem nzL_at {idx : List Nat} {i : Nat} (h : i < idx.length) : (nzL idx).getD i 0 = ixF idx i := by
 unfold nzL ixF
 rw [List.getD_eq_getElem?_getD, List.getElem?_map, List.getD_eq_getElem?_getD, List.getElem?_eq_getElem h]; rfl
theorem nzL_take {idx : List Nat} {k : Nat} (hk : k < idx.length) : nzL (idx.take (k + 1)) = nzL (idx.take k) ++ [((idx.getD k 0 : Nat) : Int)] := by
 unfold nzL
 rw [List.take_add_one, List.map_append, List.getElem?_eq_getElem hk, List.getD_eq_getElem?_getD, List.getElem?_eq_getElem hk]; rfl
/-- A vector's elements at positions. -/
noncomputable def sbQ (v : Vec) (Z : List Int) : Vec := match v with | .mk kk items parts names cls levels _ _ => selV kk (misI kk items) (misP kk parts) (misN names) cls levels (sbI (items.length + parts.length) Z)
theorem sbR_eq (v s : Vec) : sbR v s = sbQ v (rvZ v s) := by cases v with | mk kk items parts names cls levels code env => rfl
/-- A vector with a missing element behind the others. -/
noncomputable def misV (v : Vec) : Vec := match v with | .mk kk items parts names cls levels _ _ => .mk kk (misI kk items) (misP kk parts) (misN names) cls levels 0 0
theorem sb_ranges {kk : Int} {items : List It} {parts : List Vec} {names cls levels : List ByteArray} {code env : Int} (hv : ValidV (.mk kk items parts names cls levels code env)) (h5 : ¬ kk = 5) (Z : List Int) :
  ((misI kk items).length ≠ 0 → ∀ i, i < (sbI (items.length + parts.length) Z).length → (sbI (items.length + parts.length) Z).getD i 0 < (misI kk items).length) ∧
  ((misP kk parts).length ≠ 0 → ∀ i, i < (sbI (items.length + parts.length) Z).length → (sbI (items.length + parts.length) Z).getD i 0 < (misP kk parts).length) ∧
  ((misN names).length ≠ 0 → ∀ i, i < (sbI (items.length + parts.length) Z).length → (sbI (items.length + parts.length) Z).getD i 0 < (misN names).length) := by
 have hf : FlatOk kk items parts.length names cls levels code env := hv.1.flat
 have hle : ∀ i, i < (sbI (items.length + parts.length) Z).length → (sbI (items.length + parts.length) Z).getD i 0 ≤ items.length + parts.length := fun i hi => by
  rw [sbI_len] at hi; rw [sbI_at hi]; exact sbX_le _ _
 have h1 := hf.h_names
 unfold lenV at h1
 rw [if_neg h5] at h1
 have h2 := hf.h_list
 have h3 := hf.h_noParts
 have h4 := hf.h_null
 refine ⟨fun hn i hi => ?_, fun hn i hi => ?_, fun hn i hi => ?_⟩
 ·have := hle i hi
  by_cases q : kk = 0 ∨ kk = 4
  ·rw [misI_no q] at hn
   rcases q with q | q
   ·have := (h4 q).1; omega
   ·have := h2 q; omega
  ·rw [misI_yes q, List.length_append, List.length_singleton]
   have := h3 (fun e => q (.inr e)); omega
 ·have := hle i hi
  by_cases q : kk = 4
  ·rw [misP_yes q, List.length_append, List.length_singleton]
   have := h2 q; omega
  ·rw [misP_no q] at hn
   have := h3 q; omega
 ·have := hle i hi
  by_cases q : names.length = 0
  ·rw [misN_nil q] at hn; exact absurd rfl hn
  ·rw [misN_some q, List.length_append, List.length_singleton]; omega
theorem small_misV {d : Nat} {v : Vec} (hv : ValidV v) (h5 : ¬ kindV v = 5) (h : Small (d + 1) v) : Small (d + 1 + 1) (misV v) := by
 obtain ⟨kk, items, parts, names, cls, levels, code, env⟩ := v
 have h5 : ¬ kk = 5 := h5
 have hf : FlatOk kk items parts.length names cls levels code env := hv.1.flat
 have q1 := hf.h_len
 have q2 := hf.h_names
 unfold lenV at q1 q2
 rw [if_neg h5] at q1 q2
 obtain ⟨h1, h2, h3, h4, h5, h6, h7, h8, h9, h10⟩ := h
 have e1 : (misI kk items).length ≤ items.length + 1 ∧ ∀ x ∈ misI kk items, x = noI ∨ x ∈ items := by
  by_cases q : kk = 0 ∨ kk = 4
  ·rw [misI_no q]; exact ⟨Nat.le_succ _, fun x hx => .inr hx⟩
  ·rw [misI_yes q]; exact ⟨by simp, fun x hx => (List.mem_append.1 hx).elim .inr (fun e => .inl (List.mem_singleton.1 e))⟩
 have e2 : (misP kk parts).length ≤ parts.length + 1 ∧ ∀ x ∈ misP kk parts, x = noV ∨ x ∈ parts := by
  by_cases q : kk = 4
  ·rw [misP_yes q]; exact ⟨by simp, fun x hx => (List.mem_append.1 hx).elim .inr (fun e => .inl (List.mem_singleton.1 e))⟩
  ·rw [misP_no q]; exact ⟨Nat.le_succ _, fun x hx => .inr hx⟩
 have e3 : (misN names).length ≤ names.length + 1 ∧ ∀ x ∈ misN names, x = naB ∨ x ∈ names := by
  by_cases q : names.length = 0
  ·rw [misN_nil q]; exact ⟨Nat.zero_le _, fun x hx => by cases hx⟩
  ·rw [misN_some q]; exact ⟨by simp, fun x hx => (List.mem_append.1 hx).elim .inr (fun e => .inl (List.mem_singleton.1 e))⟩
 show Small (d + 1 + 1) (.mk kk (misI kk items) (misP kk parts) (misN names) cls levels 0 0)
 unfold Small
 refine ⟨by have := e1.1; omega, by have := e2.1; omega, by have := e3.1; omega, h4, h5, fun x hx => ?_, fun x hx => ?_, h8, h9, fun x hx => ?_⟩
 ·rcases e1.2 x hx with rfl | hx
  ·exact Nat.zero_le _
  ·exact h6 x hx
 ·rcases e3.2 x hx with rfl | hx
  ·show naB.size ≤ 1048576; decide
  ·exact h7 x hx
 ·rcases e2.2 x hx with rfl | hx
  ·show Small (d + 1) (.mk 0 [] [] [] [] [] 0 0)
   unfold Small
   exact ⟨Nat.zero_le _, Nat.zero_le _, Nat.zero_le _, Nat.zero_le _, Nat.zero_le _, (fun _ h => by cases h), (fun _ h => by cases h), (fun _ h => by cases h), (fun _ h => by cases h), (fun _ h => by cases h)⟩
  ·exact Small.moreS d x (h10 x hx)
theorem small_sbQ {d : Nat} {v : Vec} (Z : List Int) (hv : ValidV v) (h5 : ¬ kindV v = 5) (h : Small (d + 1) v) (hZ : Z.length ≤ 80) : Small (d + 1 + 1) (sbQ v Z) := by
 have h1 := small_misV hv h5 h
 obtain ⟨kk, items, parts, names, cls, levels, code, env⟩ := v
 exact small_selV (show Small (d + 1 + 1) (.mk kk (misI kk items) (misP kk parts) (misN names) cls levels 0 0) from h1) (by rw [sbI_len]; omega)
set_option maxHeartbeats 8000000 in
theorem implSelPos (d : Nat) (v : Vec) (val : Value) (lo hi : Nat) (w : World) (hva : VecAt lo hi w d v val) (hhi : hi ≤ w.heap.size) (hval : ValidV v) (h5 : ¬ kindV v = 5) (hsm : Small d v) (Z : List Int) (sa : Option Addr) (sc B : Nat) (hs : IntsAt B w sa Z.length (fun i => Z.getD i 0)) (hB : B ≤ w.heap.size) (hbd : ∀ z ∈ Z, -100 ≤ z ∧ z ≤ 100) (hZ : Z.length ≤ 80) :
  Calls Tryz.prog 25 #[val, .slice sa Z.length sc] w (ResV (d + 1) (sbQ v Z) w) := by
 have IP := hd9 (fun (z : Int) (W : World) (hb : Below w.heap.size w W) => implIsPos d v val lo hi W (hva.below hb hhi) (Nat.le_trans hhi hb.size) hsm z)
 have LV := hd9 (fun (W : World) (hb : Below w.heap.size w W) => implLenW d v val lo hi W (hva.below hb hhi) hsm)
 have L40 : lengthV v ≤ 40 := hval.1.flat.len
 obtain ⟨d', ed⟩ : ∃ d', d = d' + 1 := by
  cases v with
  | mk kk items parts names cls levels code env => obtain ⟨d', ai, ci, ap, cp, an, cn, ac, cc, al, cl, ed, _⟩ := vecAt_open hva; exact ⟨d', ed⟩
 subst ed
 have SMV := small_misV hval h5 hsm
 have CM := hd9 (fun (W : World) (hb : Below w.heap.size w W) => (by
  obtain ⟨kk, items, parts, names, cls, levels, code, env⟩ := v
  have hf : FlatOk kk items parts.length names cls levels code env := hval.1.flat
  have h5 : ¬ kk = 5 := h5
  have q1 := hf.h_len
  have q2 := hf.h_names
  unfold lenV at q1 q2
  rw [if_neg h5] at q1 q2
  obtain ⟨rfl, rfl⟩ := hf.h_code h5
  obtain ⟨d'', ai, ci, ap, cp, an, cn, ac, cc, al, cl, ed, rfl, hI, hN, hC, hL, hP⟩ := vecAt_open (hva.below hb hhi)
  obtain rfl : d' = d'' := by omega
  exact implMissing d' kk items parts names cls levels ai ap an ac al ci cp cn cc cl lo hi W hI (fun i p hp => by
   obtain ⟨b, off, c0, c1, c2, c3, c4, c5, c6, c7, e, g0, g1, hvv, m⟩ := hP i p hp
   exact ⟨b, off, c0, c1, c2, c3, c4, c5, c6, c7, e, g0, g1, VecAt.more d' p _ hvv, m⟩) hN hC hL (Nat.le_trans hhi hb.size) (by omega) (by omega) (by omega) hsm.2.2.2.1 hsm.2.2.2.2.1 (fun i hi => Small.moreS _ _ (hsm.part hi)) : Calls Tryz.prog 49 #[val] W (ResV (d' + 1 + 1) (misV v) W)))
 have CS := hd9 (fun (W : World) (y : Value) (ho : VecAt 0 W.heap.size W (d' + 1 + 1) (misV v) y) (xi : Option Addr) (xc : Nat) (hx : IntsAt W.heap.size W xi (sbI (lengthV v) Z).length (ixF (sbI (lengthV v) Z))) => (by
  obtain ⟨kk, items, parts, names, cls, levels, code, env⟩ := v
  have h5 : ¬ kk = 5 := h5
  have hr := sb_ranges hval h5 Z
  have hlen : lengthV (.mk kk items parts names cls levels code env) = items.length + parts.length := by show lenV kk items.length parts.length = _; unfold lenV; rw [if_neg h5]
  rw [hlen] at hx ⊢
  obtain ⟨d'', ai, ci, ap, cp, an, cn, ac, cc, al, cl, ed, rfl, hI, hN, hC, hL, hP⟩ := vecAt_open (show VecAt 0 W.heap.size W (d' + 1 + 1) (.mk kk (misI kk items) (misP kk parts) (misN names) cls levels 0 0) y from ho)
  obtain rfl : d' + 1 = d'' := by omega
  have SM : Small (d' + 1 + 1) (.mk kk (misI kk items) (misP kk parts) (misN names) cls levels 0 0) := SMV
  exact implSelect (d' + 1) kk (misI kk items) (misP kk parts) (misN names) cls levels 0 0 ai ap an ac al xi ci cp cn cc cl xc 0 W.heap.size W.heap.size (sbI (items.length + parts.length) Z) W hI hP hN hC hL (Nat.le_refl _) SM.1 SM.2.1 SM.2.2.1 SM.2.2.2.1 SM.2.2.2.2.1 SM.2.2.2.2.2.2.2.2.2 hx (Nat.le_refl _) (by rw [sbI_len]; omega) hr.1 hr.2.1 hr.2.2 : Calls Tryz.prog 48 #[y, .slice xi (sbI (lengthV v) Z).length xc] W (ResV (d' + 1 + 1) (sbQ v Z) W)))
 have NX := hd9 (fun k (hk : k < Z.length) => (by
  have h := nzL_take (idx := sbI (lengthV v) Z) (k := k) (by rw [sbI_len]; exact hk)
  rw [sbI_at hk] at h; exact h : nzL ((sbI (lengthV v) Z).take (k + 1)) = nzL ((sbI (lengthV v) Z).take k) ++ [((sbX (lengthV v) (Z.getD k 0) : Nat) : Int)]))
 have LE := hd9 (fun k => (by rw [nzL_len, List.length_take, sbI_len]; omega : (nzL ((sbI (lengthV v) Z).take k)).length ≤ Z.length))
 have EN := hd9 (show nzL ((sbI (lengthV v) Z).take Z.length) = nzL (sbI (lengthV v) Z) by rw [← sbI_len (lengthV v) Z, List.take_length])
 have AX := hd9 (fun i (hi : i < (sbI (lengthV v) Z).length) => nzL_at hi)
 have AL := hd9 (nzL_len (sbI (lengthV v) Z))
 have XI := hd9 (fun z (h : 1 ≤ z ∧ z ≤ (lengthV v : Int)) => (by rw [sbX_in h]; omega : ((sbX (lengthV v) z : Nat) : Int) = z - 1))
 have XO := hd9 (fun z (h : ¬ (1 ≤ z ∧ z ≤ (lengthV v : Int))) => (by rw [sbX_out h] : ((sbX (lengthV v) z : Nat) : Int) = (lengthV v : Int)))
 have SA := hd9 hs
 have BD := hd9 (fun k (hk : k < Z.length) => hbd _ (getDZ_mem hk))
 obtain ⟨Q, hQ⟩ : ∃ Q, sbQ v Z = Q := ⟨_, rfl⟩
 rw [hQ] at CS ⊢
 obtain ⟨M, hM⟩ : ∃ M, misV v = M := ⟨_, rfl⟩
 rw [hM] at CM CS
 obtain ⟨L, hL⟩ : ∃ L, lengthV v = L := ⟨_, rfl⟩
 rw [hL] at IP LV L40 CS NX LE EN AX AL XI XO
 obtain ⟨I, hI⟩ : ∃ I, sbI L Z = I := ⟨_, rfl⟩
 rw [hI] at CS NX LE EN AX AL
 obtain ⟨m, hm⟩ : ∃ m, Z.length = m := ⟨_, rfl⟩
 rw [hm] at SA BD NX LE EN hZ ⊢
 obtain ⟨vk, va1, vn1, vm1, va2, vn2, vm2, va3, vn3, vm3, va4, vn4, vm4, va5, vn5, vm5, vc, ve, rfl⟩ := hva.agg
 have Z0 := hd9 (show nzL (I.take 0) = [] from rfl)
 clear hva hhi hval h5 hsm hs hbd SMV hQ hM hL hI hm
 go_enter Tryz.func25, Tryz.ntmps25
 go_upto_region 1 with (fail)
 obtain ⟨w1, hw1⟩ : ∃ W, (w.alloc (.cells #[.int .i64 vk, .slice va1 vn1 vm1, .slice va2 vn2 vm2, .slice va3 vn3 vm3, .slice va4 vn4 vm4, .slice va5 vn5 vm5, .int .i64 vc, .int .i64 ve] 31)).alloc (.cells #[.int .i64 0, .slice none 0 0, .slice none 0 0, .slice none 0 0, .slice none 0 0, .slice none 0 0, .int .i64 0, .int .i64 0] 31) = W := ⟨_, rfl⟩
 have hs1 : (w.alloc (.cells #[.int .i64 vk, .slice va1 vn1 vm1, .slice va2 vn2 vm2, .slice va3 vn3 vm3, .slice va4 vn4 vm4, .slice va5 vn5 vm5, .int .i64 vc, .int .i64 ve] 31)).heap.size = w.heap.size + 1 := by simp
 have B1 := hd9 (show Below w.heap.size w w1 from hw1 ▸ ((below1 w _).alloc (by simp) _))
 have KA := hd9 (show w1.heap[w.heap.size]? = some (.cells #[.int .i64 vk, .slice va1 vn1 vm1, .slice va2 vn2 vm2, .slice va3 vn3 vm3, .slice va4 vn4 vm4, .slice va5 vn5 vm5, .int .i64 vc, .int .i64 ve] 31 (0, 0)) from hw1 ▸ blk_old (blk_new w _ rfl))
 have KR := hd9 (show w1.heap[(w.heap.size + 1)]? = some (.cells #[.int .i64 0, .slice none 0 0, .slice none 0 0, .slice none 0 0, .slice none 0 0, .slice none 0 0, .int .i64 0, .int .i64 0] 31 (0, 0)) from hw1 ▸ hs1 ▸ blk_new (w.alloc (.cells #[.int .i64 vk, .slice va1 vn1 vm1, .slice va2 vn2 vm2, .slice va3 vn3 vm3, .slice va4 vn4 vm4, .slice va5 vn5 vm5, .int .i64 vc, .int .i64 ve] 31)) (.cells #[.int .i64 0, .slice none 0 0, .slice none 0 0, .slice none 0 0, .slice none 0 0, .slice none 0 0, .int .i64 0, .int .i64 0] 31) rfl)
 have Z1 := hd9 (show w1.heap.size = w.heap.size + 1 + 1 from hw1 ▸ (by simp))
 rw [hw1]
 clear hw1 hs1
 have ST := hd9 (show IntZ w1 w1 (nzL (I.take 0)) (.slice none 0 0) from by rw [Z0.out]; exact IntZ.nil w1 w1 (Below.refl _ _))
 go_wp2
 go_loopw [5, 10] (fun v i wr => ∃ k : Nat, k ≤ m ∧ i = .int .i64 k ∧ IntZ w1 wr (nzL (I.take k)) v) (fun _ i _ => m - (intOf i).toNat)
 case atStart => exact ⟨0, Nat.zero_le _, rfl, ST.out⟩
 case round =>
  obtain ⟨k, hk, rfl, hir⟩ := hrel
  have IR := hd9 hir
  have KW := hd9 (blk_below hir.below KA.out)
  have KS := hd9 (blk_below hir.below KR.out)
  have BW := hd9 (below_then B1.out hir.below)
  clear hir
  by_cases hlt : k < m
  ·obtain ⟨ba, off, rfl, hbB, hc'⟩ := (SA.out.below (BW.out.mono hB)) k hlt
   have hc : wr.cell? ⟨ba, off + k, none⟩ = some (.int .i64 (Z.getD k 0)) := hc'
   have LN := hd9 (show (nzL (I.take k)).length ≤ 1048576 by have := LE.out k; omega)
   have NX := hd9 (NX.out k hlt)
   obtain ⟨hz0, hz1⟩ := BD.out k hlt
   obtain ⟨z, hz⟩ : ∃ z, Z.getD k 0 = z := ⟨_, rfl⟩
   rw [hz] at hc NX hz0 hz1
   clear hz hc'
   obtain ⟨a0, a1, a2, a3, a4, a5, a6, a7⟩ := vec8 KW.out
   go_wp2_with fail
   refine (IP.out z _ BW.out).mono ?_
   rintro e w2 ⟨rfl, b⟩
   have IK := hd9 (IR.out.keep b)
   have KW := hd9 (blk_below b KW.out)
   have BW := hd9 (below_then BW.out b)
   clear b a0 a1 a2 a3 a4 a5 a6 a7
   by_cases hp : 1 ≤ z ∧ z ≤ (L : Int)
   ·have NX := hd9 (by rw [XI.out z hp] at NX; exact NX.out)
    rw [bB_yes hp]
    clear hp
    go_wp2_with (at_builtin; go_loud (refine wpList_appInt rfl _ _ rfl (z - 1) (nzL (I.take k)) _ _ rfl rfl (IK.out.keep (below1 _ _)) (blk_new _ _ rfl) LN.out ?_))
    intro v' w3 hir
    have IN := hd9 (NX.out ▸ hir)
    clear hir
    go_wp2
    go_roundw
    case rel => exact ⟨k + 1, by omega, by go_num, IN.out⟩
    case measure => simp [intOf]; omega
   ·have NX := hd9 (by rw [XO.out z hp] at NX; exact NX.out)
    rw [bB_no hp]
    clear hp
    obtain ⟨a0, a1, a2, a3, a4, a5, a6, a7⟩ := vec8 KW.out
    go_wp2_with fail
    refine (LV.out _ BW.out).mono ?_
    rintro e w3 ⟨rfl, b⟩
    have IK := hd9 (IK.out.keep b)
    have hl0 : (0 : Int) ≤ (L : Int) := by omega
    have hl1 : (L : Int) ≤ 40 := by omega
    clear b a0 a1 a2 a3 a4 a5 a6 a7
    go_wp2_with (at_builtin; go_loud (first | refine wpList_appInt rfl _ _ rfl (L : Int) (nzL (I.take k)) _ _ rfl rfl (IK.out.keep (below1 _ _)) (blk_new _ _ rfl) LN.out ?_ | refine wpList_appInt rfl _ _ rfl ((L : Int) + 1 - 1) (nzL (I.take k)) _ _ rfl rfl (IK.out.keep (below1 _ _)) (blk_new _ _ rfl) LN.out ?_))
    intro v' w4 hir
    have hir : IntZ w1 w4 (nzL (I.take k) ++ [(L : Int)]) v' := by first | exact hir | exact (show (L : Int) + 1 - 1 = (L : Int) by omega) ▸ hir
    have IN := hd9 (NX.out ▸ hir)
    clear hir
    go_wp2
    go_roundw
    case rel => exact ⟨k + 1, by omega, by go_num, IN.out⟩
    case measure => simp [intOf]; omega
  ·obtain rfl : k = m := by omega
   have IR := hd9 (EN.out ▸ IR.out)
   obtain ⟨xi, xc, rfl, hx⟩ := IR.out.ints
   rw [AL.out] at hx ⊢
   have HX := hd9 (hx.congr AX.out)
   clear hx
   obtain ⟨a0, a1, a2, a3, a4, a5, a6, a7⟩ := vec8 KW.out
   have hltA := (gs9.1 KW.out).1
   go_wp2_with fail
   refine (CM.out _ BW.out).mono ?_
   rintro e w4 ⟨y, rfl, ho, b⟩
   have HX := hd9 ((HX.out.below b).mono b.size)
   have BW := hd9 (below_then BW.out b)
   have KS := hd9 (blk_below b KS.out)
   have HO := hd9 (ho.vat (Nat.le_refl _))
   clear ho b a0 a1 a2 a3 a4 a5 a6 a7 hltA
   go_wp2_with fail
   refine (CS.out _ _ HO.out _ _ HX.out).mono ?_
   rintro e w5 ⟨y5, rfl, ho, b⟩
   obtain ⟨yk, ya1, yn1, ym1, ya2, yn2, ym2, ya3, yn3, ym3, ya4, yn4, ym4, ya5, yn5, ym5, yc, ye, rfl⟩ := ho.agg
   have hr5 := (gs9.1 KS.out).1
   have L4 := hd9 BW.out.size
   have BW := hd9 (below_then BW.out b)
   have KR := hd9 (blk_below b KS.out)
   have HO := hd9 ho
   clear ho b
   obtain ⟨z0, z1, z2, z3, z4, z5, z6, z7⟩ := vec8 KR.out
   obtain ⟨f0, f1, f2, f3, f4, f5, f6, f7⟩ := free8 KR.out
   go_wp2
   exact vec_end rfl rfl rfl KR.out ⟨_, rfl, (HO.out.put8 hr5 _ _ _ _ _ _ _ _).wide L4.out (by rw [put8_size]; exact Nat.le_refl _), put8_below BW.out (by omega)⟩
set_option maxHeartbeats 8000000 in
theorem implSubsetOf (d d2 : Nat) (v s : Vec) (val vals : Value) (lo hi : Nat) (w : World) (hv : VecAt lo hi w d v val) (hs : VecAt lo hi w d2 s vals) (hhi : hi ≤ w.heap.size) (hsm : Small d v) (hsm2 : Small d2 s) :
  Calls Tryz.prog 7 #[val, vals] w (ResVS (d + 1) (sbV v s) (sbS v s) w) := by
 have CR := hd9 (fun (W : World) (hb : Below w.heap.size w W) => implResolveIn d d2 v s val vals lo hi W (hv.below hb hhi) (hs.below hb hhi) (Nat.le_trans hhi hb.size) hsm hsm2)
 obtain ⟨d', ed⟩ : ∃ d', d = d' + 1 := by
  cases v with
  | mk kk items parts names cls levels code env => obtain ⟨d', ai, ci, ap, cp, an, cn, ac, cc, al, cl, ed, _⟩ := vecAt_open hv; exact ⟨d', ed⟩
 subst ed
 have CS := hd9 (fun (h : ValidV v) (h5 : ¬ kindV v = 5) (sa : Option Addr) (sc : Nat) (W : World) (hb : Below w.heap.size w W) (hx : IntsAt W.heap.size W sa (rvZ v s).length (fun i => (rvZ v s).getD i 0)) => (by
  have h := implSelPos (d' + 1) v val lo hi W (hv.below hb hhi) (Nat.le_trans hhi hb.size) h h5 hsm (rvZ v s) sa sc W.heap.size hx (Nat.le_refl _) (rv_bd v s).2 (rv_bd v s).1
  rw [← sbR_eq] at h; exact h : Calls Tryz.prog 25 #[val, .slice sa (rvZ v s).length sc] W (ResV (d' + 1 + 1) (sbR v s) W)))
 have SX := hd9 (fun (h : ValidV v) (h5 : ¬ kindV v = 5) => (by rw [sbR_eq]; exact small_sbQ _ h h5 hsm (rv_bd v s).1 : Small (d' + 1 + 1) (sbR v s)))
 have XB := hd9 (fun h => sb_bad (v := v) (s := s) h)
 have XG := hd9 (fun h h1 => sb_big (v := v) (s := s) h h1)
 have XY := hd9 (fun h h1 => sb_yes (v := v) (s := s) h h1)
 have XR := hd9 (fun h => rv_ok (v := v) (s := s) h)
 have CF := hd9 (fun (W : World) (y : Value) (hy : VecAt 0 W.heap.size W (d' + 1 + 1) (sbR v s) y) (h : Small (d' + 1 + 1) (sbR v s)) => implFit (d' + 1 + 1) (sbR v s) y 0 W.heap.size W hy (Nat.le_refl _) h)
 obtain ⟨vk, va1, vn1, vm1, va2, vn2, vm2, va3, vn3, vm3, va4, vn4, vm4, va5, vn5, vm5, vc, ve, rfl⟩ := hv.agg
 obtain ⟨sk, sa1, sn1, sm1, sa2, sn2, sm2, sa3, sn3, sm3, sa4, sn4, sm4, sa5, sn5, sm5, sc, se, rfl⟩ := hs.agg
 obtain ⟨EV, hEV⟩ : ∃ x, sbV v s = x := ⟨_, rfl⟩
 obtain ⟨ES, hES⟩ : ∃ x, sbS v s = x := ⟨_, rfl⟩
 obtain ⟨R, hR⟩ : ∃ x, rvS v s = x := ⟨_, rfl⟩
 obtain ⟨Z, hZ⟩ : ∃ x, rvZ v s = x := ⟨_, rfl⟩
 obtain ⟨X, hX⟩ : ∃ x, sbR v s = x := ⟨_, rfl⟩
 rw [hEV, hES] at XB XG XY ⊢
 rw [hR, hZ] at CR
 rw [hR] at XB XG XY XR
 rw [hZ] at CS
 rw [hX] at CS SX XG XY CF
 clear hv hs hhi hsm hsm2 hEV hES hR hZ hX
 go_enter Tryz.func7, Tryz.ntmps7
 go_wp2_with fail
 obtain ⟨w1, hw1⟩ : ∃ W, ((w.alloc (.cells #[.int .i64 vk, .slice va1 vn1 vm1, .slice va2 vn2 vm2, .slice va3 vn3 vm3, .slice va4 vn4 vm4, .slice va5 vn5 vm5, .int .i64 vc, .int .i64 ve] 31)).alloc (.cells #[.int .i64 sk, .slice sa1 sn1 sm1, .slice sa2 sn2 sm2, .slice sa3 sn3 sm3, .slice sa4 sn4 sm4, .slice sa5 sn5 sm5, .int .i64 sc, .int .i64 se] 31)).alloc (.cells #[.int .i64 0, .slice none 0 0, .slice none 0 0, .slice none 0 0, .slice none 0 0, .slice none 0 0, .int .i64 0, .int .i64 0] 31) = W := ⟨_, rfl⟩
 have hs1 : (w.alloc (.cells #[.int .i64 vk, .slice va1 vn1 vm1, .slice va2 vn2 vm2, .slice va3 vn3 vm3, .slice va4 vn4 vm4, .slice va5 vn5 vm5, .int .i64 vc, .int .i64 ve] 31)).heap.size = w.heap.size + 1 := by simp
 have hs2 : ((w.alloc (.cells #[.int .i64 vk, .slice va1 vn1 vm1, .slice va2 vn2 vm2, .slice va3 vn3 vm3, .slice va4 vn4 vm4, .slice va5 vn5 vm5, .int .i64 vc, .int .i64 ve] 31)).alloc (.cells #[.int .i64 sk, .slice sa1 sn1 sm1, .slice sa2 sn2 sm2, .slice sa3 sn3 sm3, .slice sa4 sn4 sm4, .slice sa5 sn5 sm5, .int .i64 sc, .int .i64 se] 31)).heap.size = w.heap.size + 1 + 1 := by simp
 have B1 := hd9 (show Below w.heap.size w w1 from hw1 ▸ (((below1 w _).alloc (by simp) _).alloc (by simp; omega) _))
 have KA := hd9 (show w1.heap[w.heap.size]? = some (.cells #[.int .i64 vk, .slice va1 vn1 vm1, .slice va2 vn2 vm2, .slice va3 vn3 vm3, .slice va4 vn4 vm4, .slice va5 vn5 vm5, .int .i64 vc, .int .i64 ve] 31 (0, 0)) from hw1 ▸ blk_old (blk_old (blk_new w _ rfl)))
 have KB := hd9 (show w1.heap[(w.heap.size + 1)]? = some (.cells #[.int .i64 sk, .slice sa1 sn1 sm1, .slice sa2 sn2 sm2, .slice sa3 sn3 sm3, .slice sa4 sn4 sm4, .slice sa5 sn5 sm5, .int .i64 sc, .int .i64 se] 31 (0, 0)) from hw1 ▸ blk_old (hs1 ▸ blk_new (w.alloc (.cells #[.int .i64 vk, .slice va1 vn1 vm1, .slice va2 vn2 vm2, .slice va3 vn3 vm3, .slice va4 vn4 vm4, .slice va5 vn5 vm5, .int .i64 vc, .int .i64 ve] 31)) (.cells #[.int .i64 sk, .slice sa1 sn1 sm1, .slice sa2 sn2 sm2, .slice sa3 sn3 sm3, .slice sa4 sn4 sm4, .slice sa5 sn5 sm5, .int .i64 sc, .int .i64 se] 31) rfl))
 have KR := hd9 (show w1.heap[(w.heap.size + 1 + 1)]? = some (.cells #[.int .i64 0, .slice none 0 0, .slice none 0 0, .slice none 0 0, .slice none 0 0, .slice none 0 0, .int .i64 0, .int .i64 0] 31 (0, 0)) from hw1 ▸ hs2 ▸ blk_new ((w.alloc (.cells #[.int .i64 vk, .slice va1 vn1 vm1, .slice va2 vn2 vm2, .slice va3 vn3 vm3, .slice va4 vn4 vm4, .slice va5 vn5 vm5, .int .i64 vc, .int .i64 ve] 31)).alloc (.cells #[.int .i64 sk, .slice sa1 sn1 sm1, .slice sa2 sn2 sm2, .slice sa3 sn3 sm3, .slice sa4 sn4 sm4, .slice sa5 sn5 sm5, .int .i64 sc, .int .i64 se] 31)) (.cells #[.int .i64 0, .slice none 0 0, .slice none 0 0, .slice none 0 0, .slice none 0 0, .slice none 0 0, .int .i64 0, .int .i64 0] 31) rfl)
 have Z1 := hd9 (show w1.heap.size = w.heap.size + 1 + 1 + 1 from hw1 ▸ (by simp))
 rw [hw1]
 clear hw1 hs1 hs2
 refine (CR.out _ B1.out).mono ?_
 rintro e w2 ⟨v5, rfl, hz⟩
 have KA := hd9 (blk_below hz.below KA.out)
 have KR := hd9 (blk_below hz.below KR.out)
 have B2 := hd9 (below_then B1.out hz.below)
 by_cases hR : R = ⟨#[]⟩
 ·have XG2 := hd9 (fun h1 => XG.out hR h1)
  have XY2 := hd9 (fun h1 => XY.out hR h1)
  obtain ⟨hval, h5⟩ := XR.out hR
  obtain ⟨sa, c, rfl, hi'⟩ := hz.ints
  have CS := hd9 (CS.out hval h5 sa c w2 B2.out hi')
  have SX := hd9 (SX.out hval h5)
  subst hR
  clear hval h5 hi' hz XB XR CR KB XG XY
  have XG := XG2
  have XY := XY2
  clear XG2 XY2
  obtain ⟨k0, k1, k2, k3, k4, k5, k6, k7⟩ := vec8 KA.out
  go_wp2_with fail
  refine (CS.out).mono ?_
  rintro e w3 ⟨y, rfl, ho, b⟩
  have B3 := hd9 (below_then B2.out b)
  have hr3 := (gs9.1 KR.out).1
  have KR := hd9 (blk_below b KR.out)
  have HO := hd9 ho
  clear ho b k0 k1 k2 k3 k4 k5 k6 k7
  go_wp2_with fail
  refine (CF.out _ _ (HO.out.vat (Nat.le_refl _)) SX.out).mono ?_
  rintro e w4 ⟨b, hor⟩
  have B4 := hd9 (below_then B3.out b)
  have KR := hd9 (blk_below b KR.out)
  have HO := hd9 (HO.out.below b (Nat.le_refl _))
  have L2 := hd9 B2.out.size
  have S4 := hd9 b.size
  clear b
  rcases hor with ⟨hv, rfl⟩ | ⟨hn, rfl⟩
  ·have XX := hd9 (XY.out hv)
   obtain ⟨yk, ya1, yn1, ym1, ya2, yn2, ym2, ya3, yn3, ym3, ya4, yn4, ym4, ya5, yn5, ym5, yc, ye, rfl⟩ := HO.out.agg
   clear XY XG hv
   obtain ⟨z0, z1, z2, z3, z4, z5, z6, z7⟩ := vec8 KR.out
   obtain ⟨f0, f1, f2, f3, f4, f5, f6, f7⟩ := free8 KR.out
   go_wp2
   rw [XX.out.1, XX.out.2]
   exact vec_endS rfl rfl rfl rfl KR.out ⟨_, rfl, (HO.out.put8 hr3 _ _ _ _ _ _ _ _).wide L2.out (by rw [put8_size]; exact S4.out), put8_below B4.out (by omega)⟩
  ·have XX := hd9 (XG.out hn)
   clear XY XG hn
   obtain ⟨z0, z1, z2, z3, z4, z5, z6, z7⟩ := vec8 KR.out
   obtain ⟨f0, f1, f2, f3, f4, f5, f6, f7⟩ := free8 KR.out
   go_wp2
   rw [XX.out.1, XX.out.2]
   exact vec_endS rfl rfl rfl rfl KR.out (zeroSD _ _ w _ (put8_below B4.out (by omega)))
 ·have XX := hd9 (XB.out hR)
  have hRb : (R.toList == []) = false := by have h := str_not hR; rw [ByteArray.toList_eq ⟨#[]⟩] at h; exact h
  clear hR XG XY XR XB CS CR hz SX CF
  obtain ⟨z0, z1, z2, z3, z4, z5, z6, z7⟩ := vec8 KR.out
  obtain ⟨f0, f1, f2, f3, f4, f5, f6, f7⟩ := free8 KR.out
  go_wp2
  rw [XX.out.1, XX.out.2]
  exact vec_endS rfl rfl rfl rfl KR.out (zeroSD _ _ w _ (put8_below B2.out (by omega)))
end Go.Proofs.YteoalkjngkcheaaGreat

/- The reference's l4Pick: elements of an atomic vector, not NULL, at any positions. -/
namespace Go.Proofs.YteoalkjngkcheaaGreat
open Go.RowKit
set_option maxRecDepth 100000
set_option linter.unusedVariables false

theorem build_i0Z {w : World} : (Instr.build 64 #[]).run Tryz.prog w = .ok (.agg #[.int .i64 0, .int .i64 0, .string ⟨#[]⟩]) w := by
 kernel_rfl
section
variable {ops : Array Oper} {Q : Exit → Act → World → Prop} {S : World → Prop}
variable {r : List (Nat × Bool)} {a : Act} {e : List (Nat × Value)} {w : World} {i d : Nat} {g : Option (Nat × Bool)}
theorem bldI0Z (ho : opAt ops i = some (some d, .build 64 #[], g)) (hd : Nat.blt d a.tmps.size = true) (hw : wantE ops a e g = some true)
  (h : RunE Tryz.prog ops Q S r a ((d, .agg #[.int .i64 0, .int .i64 0, .string ⟨#[]⟩]) :: e) w) : RunE Tryz.prog ops Q S ((i, true) :: r) a e w :=
 run_yield ho hd hw (fun o w' h1 _ => by
  unfold execOp
  simp only [h1, List.map_toArray, List.map_nil]
  exact run_v build_i0Z) h
end
end Go.Proofs.YteoalkjngkcheaaGreat

/- The reference's l4Pick: elements of an atomic vector, not NULL, at any positions; without levels. -/
namespace Go.Proofs.YteoalkjngkcheaaGreat
open Go.RowKit
set_option maxRecDepth 100000
set_option linter.unusedVariables false

set_option maxHeartbeats 8000000 in
theorem specPickZ0 (d : Nat) (kk : Int) (items : List It) (parts : List Vec) (names cls levels : List ByteArray) (code env : Int) (ai ap an ac al xi : Option Addr) (ci cp cn cc cl xc lo hi B : Nat) (idx : List Nat) (p : Nat → Int) (w : World) (hI : ItemsAt lo hi w ai items) (hN : TextsAt lo hi w an names) (hC : TextsAt lo hi w ac cls) (hL : TextsAt lo hi w al levels) (hhi : hi ≤ w.heap.size)
  (li : items.length ≤ 1048576) (lp : parts.length = 0) (ln : names.length ≤ 1048576) (lc : cls.length ≤ 1048576) (ll : levels.length ≤ 1048576) (hs : IntsAt B w xi idx.length p) (hbd : ∀ i, i < idx.length → -1048576 ≤ p i ∧ p i ≤ 1048576) (hB : B ≤ w.heap.size) (hn : idx.length ≤ 1048576)
  (hk4 : ¬ kk = 4) (hk5 : ¬ kk = 5) (hin : ∀ i, i < idx.length → (p i = ((idx.getD i 0 : Nat) : Int) + 1 ∧ idx.getD i 0 < items.length) ∨ (idx.getD i 0 = items.length ∧ ¬ (1 ≤ p i ∧ p i ≤ (items.length : Int)))) (hnm : names.length ≠ 0 → names.length = items.length)
  (hl : levels.length = 0) :
  Calls Tryz.prog 19 #[.agg #[.int .i64 kk, .slice ai items.length ci, .slice ap parts.length cp, .slice an names.length cn, .slice ac cls.length cc, .slice al levels.length cl, .int .i64 code, .int .i64 env], .slice xi idx.length xc] w (ResV (d + 1) (.mk kk (pkL noI (items ++ [noI]) idx) [] (clnN (pkL ⟨#[]⟩ (misN names) idx)) (kpC levels cls) levels 0 0) w) := by
 have HLV := hd9 hl
 clear hl
 have AI := hd9 (fun (k : Nat) (w1 : World) (hk : k < items.length) (hb : Below w.heap.size w w1) => (hI.below hb hhi).at_ hk)
 have AN := hd9 (fun (k : Nat) (w1 : World) (hk : k < names.length) (hb : Below w.heap.size w w1) => (show ∃ b off, an = some ⟨b, off, none⟩ ∧ b < hi ∧ w1.cell? ⟨b, off + k, none⟩ = some (.string (names.getD k ⟨#[]⟩)) from (by obtain ⟨b, off, e, _, h1, h2⟩ := (hN.below hb hhi) k (names.getD k ⟨#[]⟩) (by simp [List.getD_eq_getElem?_getD, hk]); exact ⟨b, off, e, h1, h2⟩)))
 have SA := hd9 hs
 have IN := hd9 hin
 have BD := hd9 hbd
 have XI := hd9 (fun q (hq : q < items.length) => (by simp [List.getD_eq_getElem?_getD, List.getElem?_append_left hq] : (items ++ [noI]).getD q noI = items.getD q noI))
 have XI1 := hd9 (by simp [List.getD_eq_getElem?_getD] : (items ++ [noI]).getD items.length noI = noI)
 have XN := hd9 (fun q (hq : q < names.length) => (by rw [misN_some (by omega)]; simp [List.getD_eq_getElem?_getD, List.getElem?_append_left hq] : (misN names).getD q ⟨#[]⟩ = names.getD q ⟨#[]⟩))
 have XN1 := hd9 (fun (h : names.length ≠ 0) => (by rw [misN_some h, ← hnm h]; simp [List.getD_eq_getElem?_getD] : (misN names).getD items.length ⟨#[]⟩ = naB))
 have HC := hd9 (fun (w1 : World) (hb : Below w.heap.size w w1) => hC.below hb hhi)
 have HL := hd9 (fun (w1 : World) (hb : Below w.heap.size w w1) => hL.below hb hhi)
 have LE := hd9 (fun W => (by have h := specLen kk ai ap an ac al items.length ci parts.length cp names.length cn cls.length cc levels.length cl code env W li (by omega); rw [show lenV kk items.length parts.length = items.length by unfold lenV; rw [if_neg hk5]; omega] at h; exact h : Calls Tryz.prog 17 #[.agg #[.int .i64 kk, .slice ai items.length ci, .slice ap parts.length cp, .slice an names.length cn, .slice ac cls.length cc, .slice al levels.length cl, .int .i64 code, .int .i64 env]] W (fun e w' => e = .returned (.int .i64 (items.length : Nat)) ∧ Below W.heap.size W w')))
 have PI := hd9 (fun k (hk : k < idx.length) => pkT_succ (z := noI) (l := items ++ [noI]) (by simp) hk)
 have PN := hd9 (fun k (h : names.length ≠ 0) (hk : k < idx.length) => pkT_succ (z := ⟨#[]⟩) (l := misN names) (by rw [misN_some h]; simp) hk)
 have P0 := hd9 (fun (h : names.length = 0) k => (by rw [misN_nil h]; rfl : pkL ⟨#[]⟩ (misN names) (idx.take k) = []))
 have EV := hd9 (show (Vec.mk kk (pkL noI (items ++ [noI]) idx) [] (clnN (pkL ⟨#[]⟩ (misN names) idx)) (kpC levels cls) levels 0 0) = .mk kk (pkL noI (items ++ [noI]) (idx.take idx.length)) [] (clnN (pkL ⟨#[]⟩ (misN names) (idx.take idx.length))) (kpC levels cls) levels 0 0 by rw [pkT_full, pkT_full])
 have LI := hd9 (pkT_len noI (items ++ [noI]) idx)
 have LM := hd9 (pkT_len ⟨#[]⟩ (misN names) idx)
 have hk4b : (kk == 4) = false := beq_eq_false_iff_ne.2 hk4
 have EK := hd9 (fun (h : levels.length ≠ 0) => kpC_some (cls := cls) h)
 have EK0 := hd9 (fun (h : levels.length = 0) => (by rw [List.eq_nil_of_length_eq_zero h]; exact ⟨rfl, rfl⟩ : levels = [] ∧ kpC levels cls = []))
 have UST := hd9 (fun W => Und.start (w.heap.size + 1 + 1 + 1) W d)
 obtain ⟨V, hV⟩ : ∃ V, Vec.mk kk (pkL noI (items ++ [noI]) idx) [] (clnN (pkL ⟨#[]⟩ (misN names) idx)) (kpC levels cls) levels 0 0 = V := ⟨_, rfl⟩
 rw [hV] at EV ⊢
 obtain ⟨m, hm⟩ : ∃ m, idx.length = m := ⟨_, rfl⟩
 rw [hm] at SA IN BD PI PN EV hn ⊢
 obtain ⟨n, hn'⟩ : ∃ n, items.length = n := ⟨_, rfl⟩
 rw [hn'] at AI IN LE XI XI1 XN1 li hnm ⊢
 obtain ⟨nn, hnn⟩ : ∃ n, names.length = n := ⟨_, rfl⟩
 rw [hnn] at AN LE PN P0 XN XN1 ln hnm ⊢
 have LP := hd9 lp
 clear hV hm hn' hnn hI hN hC hL hs hin hbd hk4 hk5 lp
 go_enter Tryz.func19, Tryz.ntmps19
 go_upto_region 2 with (fail)
 obtain ⟨w1, hw1⟩ : ∃ W, ((w.alloc (.cells #[.int .i64 kk, .slice ai n ci, .slice ap parts.length cp, .slice an nn cn, .slice ac cls.length cc, .slice al levels.length cl, .int .i64 code, .int .i64 env] 31)).alloc (.cells #[.int .i64 0, .slice none 0 0, .slice none 0 0, .slice none 0 0, .slice none 0 0, .slice none 0 0, .int .i64 0, .int .i64 0] 31)).alloc (.cells #[.int .i64 kk, .slice none 0 0, .slice none 0 0, .slice none 0 0, .slice none 0 0, .slice none 0 0, .int .i64 0, .int .i64 0] 31) = W := ⟨_, rfl⟩
 have hsz : (w.alloc (.cells #[.int .i64 kk, .slice ai n ci, .slice ap parts.length cp, .slice an nn cn, .slice ac cls.length cc, .slice al levels.length cl, .int .i64 code, .int .i64 env] 31)).heap.size = w.heap.size + 1 := by simp
 have hsz2 : ((w.alloc (.cells #[.int .i64 kk, .slice ai n ci, .slice ap parts.length cp, .slice an nn cn, .slice ac cls.length cc, .slice al levels.length cl, .int .i64 code, .int .i64 env] 31)).alloc (.cells #[.int .i64 0, .slice none 0 0, .slice none 0 0, .slice none 0 0, .slice none 0 0, .slice none 0 0, .int .i64 0, .int .i64 0] 31)).heap.size = w.heap.size + 1 + 1 := by simp
 have hsz3 : w1.heap.size = w.heap.size + 1 + 1 + 1 := by rw [← hw1]; simp
 have BW := hd9 (show Below w.heap.size w w1 from hw1 ▸ ((below1 w _).alloc (by simp) _).alloc (by simp; omega) _)
 have KA := hd9 (show w1.heap[w.heap.size]? = some (.cells #[.int .i64 kk, .slice ai n ci, .slice ap parts.length cp, .slice an nn cn, .slice ac cls.length cc, .slice al levels.length cl, .int .i64 code, .int .i64 env] 31 (0, 0)) from hw1 ▸ blk_old (blk_old (blk_new w _ rfl)))
 have KR := hd9 (show w1.heap[w.heap.size + 1]? = some (.cells #[.int .i64 0, .slice none 0 0, .slice none 0 0, .slice none 0 0, .slice none 0 0, .slice none 0 0, .int .i64 0, .int .i64 0] 31 (0, 0)) from hw1 ▸ blk_old (hsz ▸ blk_new (w.alloc (.cells #[.int .i64 kk, .slice ai n ci, .slice ap parts.length cp, .slice an nn cn, .slice ac cls.length cc, .slice al levels.length cl, .int .i64 code, .int .i64 env] 31)) (.cells #[.int .i64 0, .slice none 0 0, .slice none 0 0, .slice none 0 0, .slice none 0 0, .slice none 0 0, .int .i64 0, .int .i64 0] 31) rfl))
 have KB := hd9 (show w1.heap[w.heap.size + 1 + 1]? = some (.cells #[.int .i64 kk, .slice none 0 0, .slice none 0 0, .slice none 0 0, .slice none 0 0, .slice none 0 0, .int .i64 0, .int .i64 0] 31 (0, 0)) from hw1 ▸ hsz2 ▸ blk_new ((w.alloc (.cells #[.int .i64 kk, .slice ai n ci, .slice ap parts.length cp, .slice an nn cn, .slice ac cls.length cc, .slice al levels.length cl, .int .i64 code, .int .i64 env] 31)).alloc (.cells #[.int .i64 0, .slice none 0 0, .slice none 0 0, .slice none 0 0, .slice none 0 0, .slice none 0 0, .int .i64 0, .int .i64 0] 31)) (.cells #[.int .i64 kk, .slice none 0 0, .slice none 0 0, .slice none 0 0, .slice none 0 0, .slice none 0 0, .int .i64 0, .int .i64 0] 31) rfl)
 rw [hw1]
 clear hw1 hsz hsz2
 have hrb : w.heap.size + 1 < w.heap.size + 1 + 1 := Nat.lt_succ_self _
 have hbw : w.heap.size < w.heap.size + 1 + 1 := by omega
 obtain ⟨b, hb⟩ : ∃ b, w.heap.size + 1 + 1 = b := ⟨_, rfl⟩
 rw [hb] at KB UST hsz3 hrb hbw ⊢
 clear hb
 have SL : b + 1 ≤ w1.heap.size := Nat.le_of_eq hsz3.symm
 clear hsz3
 have hl := HLV.out
 clear HLV
 have hl0 : ((levels.length : Nat) : Int) ≤ 0 := by omega
 have U := hd9 (show Und (b + 1) w1 d [] [] [] (kpC levels cls) levels _ _ _ _ _ [] from by obtain ⟨e1, e2⟩ := EK0.out hl; rw [e2, e1]; exact UST.out w1)
 clear hl
 obtain ⟨a0, a1, a2, a3, a4, a5, a6, a7⟩ := vec8 KA.out
 go_wp2
 clear a0 a1 a2 a3 a4 a5 a6 a7 hl0
 obtain ⟨dv, hdv⟩ : ∃ dv, decide (0 < levels.length) = dv := ⟨_, rfl⟩
 try rw [hdv]
 clear hdv
 have W0 := hd9 (show w.heap.size ≤ b + 1 by omega)
 have B0' := hd9 (show w.heap.size ≤ b by omega)
 go_loopw [6] (fun i wr => ∃ (k : Nat) (vi vn : Value), k ≤ m ∧ i = .int .i64 k ∧ Below w.heap.size w wr ∧ wr.heap[w.heap.size]? = some (.cells #[.int .i64 kk, .slice ai n ci, .slice ap parts.length cp, .slice an nn cn, .slice ac cls.length cc, .slice al levels.length cl, .int .i64 code, .int .i64 env] 31 (0, 0)) ∧ wr.heap[w.heap.size + 1]? = some (.cells #[.int .i64 0, .slice none 0 0, .slice none 0 0, .slice none 0 0, .slice none 0 0, .slice none 0 0, .int .i64 0, .int .i64 0] 31 (0, 0)) ∧ wr.heap[b]? = some (.cells #[.int .i64 kk, vi, .slice none 0 0, vn, .slice none 0 0, .slice none 0 0, .int .i64 0, .int .i64 0] 31 (0, 0)) ∧ Und (b + 1) wr d (pkL noI (items ++ [noI]) (idx.take k)) [] (pkL ⟨#[]⟩ (misN names) (idx.take k)) (kpC levels cls) levels vi (.slice none 0 0) vn (.slice none 0 0) (.slice none 0 0) []) (fun i _ => m - (intOf i).toNat)
 case atStart => exact ⟨0, .slice none 0 0, .slice none 0 0, Nat.zero_le _, rfl, BW.out, KA.out, KR.out, KB.out, by rw [pkT_zero, pkT_zero]; exact U.out⟩
 case round =>
  obtain ⟨k, vi, vn, hk, rfl, hbw', hka, hkr, hkb, hu⟩ := hrel
  have BW := hd9 hbw'
  have KA := hd9 hka
  have KR := hd9 hkr
  have KB := hd9 hkb
  have U := hd9 hu
  clear hbw' hka hkr hkb hu
  by_cases hlt : k < m
  ·obtain ⟨bi, oi, rfl, hbi, cx⟩ := (SA.out.below (BW.out.mono hB)) k hlt
   have hbd := BD.out k hlt
   have NXI := hd9 (PI.out k hlt)
   have PNk := hd9 (fun h => PN.out k h hlt)
   have INk := hd9 (IN.out k hlt)
   obtain ⟨q, hq'⟩ : ∃ q, idx.getD k 0 = q := ⟨_, rfl⟩
   rw [hq'] at INk NXI PNk
   clear hq'
   obtain ⟨z, hz⟩ : ∃ z, p k = z := ⟨_, rfl⟩
   rw [hz] at cx INk hbd
   clear hz
   rcases INk.out with ⟨hz, hq⟩ | ⟨hq, hz⟩
   ·subst hz
    have NXI := hd9 (by rw [XI.out q hq] at NXI; exact NXI.out)
    have PNk := hd9 (fun h => by have e := PNk.out h; rw [XN.out q (by have := hnm h; omega)] at e; exact e)
    clear INk hbd
    have IY := hd9 (fun W => inYes (q : Int) 0 ((n : Int) - 1) W (by omega) (by omega))
    obtain ⟨ba, off, rfl, hbB, c0, c1, c2'⟩ := AI.out q w hq (Below.refl _ _)
    have c2 : w.cell? ⟨ba, off + q * 3 + 2, none⟩ = some (.string (items.getD q noI).t) := c2'
    have hbaw : ba < w.heap.size := Nat.lt_of_lt_of_le hbB hhi
    obtain ⟨x, hx⟩ : ∃ x, items.getD q noI = x := ⟨_, rfl⟩
    rw [hx] at c0 c1 c2 NXI
    clear hx c2'
    obtain ⟨a0, a1, a2, a3, a4, a5, a6, a7⟩ := vec8 KA.out
    go_wp2_with fail
    with_reducible refine (LE.out _).mono ?_
    rintro e wl ⟨rfl, b'⟩
    have BW := hd9 (below_then BW.out b')
    have KA := hd9 (blk_below b' KA.out)
    have KR := hd9 (blk_below b' KR.out)
    have KB := hd9 (blk_below b' KB.out)
    have U := hd9 (U.out.below b')
    clear b' a0 a1 a2 a3 a4 a5 a6 a7
    go_wp2_with fail
    with_reducible refine (IY.out _).mono ?_
    rintro e w' ⟨rfl, rfl⟩
    obtain ⟨a0, a1, a2, a3, a4, a5, a6, a7⟩ := vec8 KA.out
    have hbl := (gs9.1 KB.out).1
    have hKR := (gs9.1 KR.out).1
    have KRW := KR
    have UW := U
    by_cases h0 : nn = 0
    ·have e0 := P0.out h0 (k + 1)
     have e1 := P0.out h0 k
     have hn0 : (nn : Int) ≤ 0 := by omega
     have H0 := hd9 h0
     clear h0
     have LN := hd9 (show (pkL noI (items ++ [noI]) (idx.take k)).length ≤ 1048576 by have := LI.out k; omega)
     have FAR := hd9 (fun g hg => (U.out.i.lt g hg).1)
     have H := hd9 (show HeldC w wl ([(w.heap.size, 31, #[.int .i64 kk, .slice (some ⟨ba, off, none⟩) n ci, .slice ap parts.length cp, .slice an nn cn, .slice ac cls.length cc, .slice al levels.length cl, .int .i64 code, .int .i64 env]), (b, 31, #[.int .i64 kk, vi, .slice none 0 0, vn, .slice none 0 0, .slice none 0 0, .int .i64 0, .int .i64 0])]) from heldC_cons (heldC_cons ⟨BW.out, (fun _ h => by cases h)⟩ KB.out) KA.out)
     go_upto_region 15 with (fail)
     clear a0 a1 a2 a3 a4 a5 a6 a7
     refine run_region (ops := (opsOf Tryz.f19 15)) (S := fun w' => HeldC w w' ([(w.heap.size, 31, #[.int .i64 kk, .slice (some ⟨ba, off, none⟩) n ci, .slice ap parts.length cp, .slice an nn cn, .slice ac cls.length cc, .slice al levels.length cl, .int .i64 code, .int .i64 env]), (b, 31, #[.int .i64 kk, vi, (.slice none 0 0), vn, .slice none 0 0, .slice none 0 0, .int .i64 0, .int .i64 0])])) [(0, true), (1, true), (2, true), (3, true), (4, true), (5, true), (6, true), (7, false), (8, false), (9, true), (10, false)] (by kernel_rfl) (by kernel_rfl) (by kernel_rfl) (by kernel_rfl) (by kernel_rfl) (fun _ _ _ _ _ h => h) (heldC_drew H.out) ?_
     have H := hd9 (heldC_drew H.out)
     have U := hd9 (U.out.keep (below_drew' (Below.refl _ _)))
     refine runC_partV (b := b) (by kernel_rfl) (show opAt (opsOf Tryz.f19 15) 0 = some (some 69, .fieldAddr 31 (.tmp 5) 1, none) from by kernel_rfl) (by kernel_rfl) (by kernel_rfl) (by kernel_rfl) ?_
     refine runC_cell (b := b) (j := 1) (v := vi) load_its (show opAt (opsOf Tryz.f19 15) 1 = some (some 70, .load 28 (.tmp 69), none) from by kernel_rfl) (by kernel_rfl) (by kernel_rfl) (by kernel_rfl) (mt9 mh9) rfl ?_
     refine runC_partV (b := w.heap.size) (by kernel_rfl) (show opAt (opsOf Tryz.f19 15) 2 = some (some 71, .fieldAddr 31 (.tmp 2) 1, none) from by kernel_rfl) (by kernel_rfl) (by kernel_rfl) (by kernel_rfl) ?_
     refine runC_cell (b := w.heap.size) (j := 1) (v := .slice (some ⟨ba, off, none⟩) n ci) load_its (show opAt (opsOf Tryz.f19 15) 3 = some (some 72, .load 28 (.tmp 71), none) from by kernel_rfl) (by kernel_rfl) (by kernel_rfl) (by kernel_rfl) mh9 rfl ?_
     refine run_mov (v := .int .i64 ((q : Int))) (show opAt (opsOf Tryz.f19 15) 4 = some (some 73, .move (.tmp 7), none) from by kernel_rfl) (by kernel_rfl) (by kernel_rfl) (by kernel_rfl) ?_
     refine run_idx3 (n := n) (c := ci) (b := ba) (off := off) (k := q) (show opAt (opsOf Tryz.f19 15) 5 = some (some 74, .indexAddr 28 (.tmp 72) (.tmp 73), none) from by kernel_rfl) (by kernel_rfl) (by kernel_rfl) (by kernel_rfl) (by kernel_rfl) hq ?_
     refine runC_oldI (b := ba) (j := off + q * 3) (z := x) (show opAt (opsOf Tryz.f19 15) 6 = some (some 75, .load 64 (.tmp 74), none) from by kernel_rfl) (by kernel_rfl) (by kernel_rfl) (by kernel_rfl) hbaw c0 c1 c2 ?_
     refine tail_its3 x (show opAt (opsOf Tryz.f19 15) 7 = some (some 76, .buildSlice 28 1 #[(0, (.tmp 75))], none) from by kernel_rfl) (by kernel_rfl) (by kernel_rfl) (show opAt (opsOf Tryz.f19 15) 8 = some (some 77, .call { callee := .builtin .append, args := [(.tmp 70), (.tmp 76)].toArray, argTypes := [28, 28].toArray }, none) from by kernel_rfl) (by kernel_rfl) (fun _ => by kernel_rfl) (show opAt (opsOf Tryz.f19 15) 9 = some (some 78, .fieldAddr 31 (.tmp 5) 1, none) from by kernel_rfl) (by kernel_rfl) (by kernel_rfl) (fun _ _ => by kernel_rfl) (show opAt (opsOf Tryz.f19 15) 10 = some (none, .store 28 (.tmp 78) (.tmp 77), none) from by kernel_rfl) (by kernel_rfl) (by kernel_rfl) H.out U.out.i LN.out (Nat.succ_le_of_lt (gs9.1 (heldC_at H.out (mt9 mh9))).1) W0.out (mt9 mh9) rfl (Nat.lt_succ_self _) B0'.out (fun q hq => far_two FAR.out (Nat.lt_succ_of_lt hbw) (Nat.lt_succ_self _) hq) ?_
     rintro v' w2 ⟨sa, sn, sc2, rfl⟩ hK hO hB hZ hR hG
     simp only [putAll, Act.put, List.setIfInBounds_toArray, List.set_cons_zero, List.set_cons_succ]
     have KA1 := heldC_at H.out mh9
     have KR1 := heldC_at H.out mh9
     have hwa := (gs9.1 KA1).1
     have U := hd9 (U.out.setI hO hR (fun g hlo hg hne => hG g hg (by omega) hne) hZ)
     have KA := hd9 (show w2.heap[w.heap.size]? = some (.cells #[.int .i64 kk, .slice (some ⟨ba, off, none⟩) n ci, .slice ap parts.length cp, .slice an nn cn, .slice ac cls.length cc, .slice al levels.length cl, .int .i64 code, .int .i64 env] 31 (0, 0)) from (hG _ hwa (by omega) (fun e => by have := FAR.out _ e; omega)).trans KA1)
     have KB := hd9 (show w2.heap[b]? = some (.cells #[.int .i64 kk, .slice sa sn sc2, .slice none 0 0, vn, .slice none 0 0, .slice none 0 0, .int .i64 0, .int .i64 0] 31 (0, 0)) from hK)
     have BW := hd9 hB
     have KR := hd9 (show w2.heap[w.heap.size + 1]? = some (.cells #[.int .i64 0, .slice none 0 0, .slice none 0 0, .slice none 0 0, .slice none 0 0, .slice none 0 0, .int .i64 0, .int .i64 0] 31 (0, 0)) from (hG _ hKR (by omega) (fun e => by have := FAR.out _ e; omega)).trans KRW.out)
     clear hK hO hB hR hG hZ H FAR LN KA1 KR1 hwa
     obtain ⟨a0, a1, a2, a3, a4, a5, a6, a7⟩ := vec8 KA.out
     go_wp2
     go_roundw
     case rel => first | exact ⟨k + 1, _, vn, by omega, by go_num, BW.out, KA.out, KR.out, KB.out, by rw [NXI.out, e0]; rw [e1] at U; exact U.out⟩ | ((repeat apply Exists.intro); exact ⟨⟨k + 1, _, vn, by omega, by go_num, BW.out, KA.out, KR.out, KB.out, by rw [NXI.out, e0]; rw [e1] at U; exact U.out⟩, rfl⟩)
     case measure => simp [intOf]; omega
    ·have hqn : q < nn := by have := hnm h0; omega
     have hn0 : 0 < (nn : Int) := by omega
     have NXN := hd9 (PNk.out h0)
     obtain ⟨bn, offn, rfl, hbN, cn0⟩ := AN.out q w hqn (Below.refl _ _)
     have hbnw : bn < w.heap.size := Nat.lt_of_lt_of_le hbN hhi
     obtain ⟨s, hs⟩ : ∃ s, names.getD q ⟨#[]⟩ = s := ⟨_, rfl⟩
     rw [hs] at cn0 NXN
     clear hs
     have LN := hd9 (show (pkL noI (items ++ [noI]) (idx.take k)).length ≤ 1048576 by have := LI.out k; omega)
     have FAR := hd9 (fun g hg => (U.out.i.lt g hg).1)
     have H := hd9 (show HeldC w wl ([(w.heap.size, 31, #[.int .i64 kk, .slice (some ⟨ba, off, none⟩) n ci, .slice ap parts.length cp, .slice (some ⟨bn, offn, none⟩) nn cn, .slice ac cls.length cc, .slice al levels.length cl, .int .i64 code, .int .i64 env]), (b, 31, #[.int .i64 kk, vi, .slice none 0 0, vn, .slice none 0 0, .slice none 0 0, .int .i64 0, .int .i64 0])]) from heldC_cons (heldC_cons ⟨BW.out, (fun _ h => by cases h)⟩ KB.out) KA.out)
     go_upto_region 15 with (fail)
     clear a0 a1 a2 a3 a4 a5 a6 a7
     refine run_region (ops := (opsOf Tryz.f19 15)) (S := fun w' => HeldC w w' ([(w.heap.size, 31, #[.int .i64 kk, .slice (some ⟨ba, off, none⟩) n ci, .slice ap parts.length cp, .slice (some ⟨bn, offn, none⟩) nn cn, .slice ac cls.length cc, .slice al levels.length cl, .int .i64 code, .int .i64 env]), (b, 31, #[.int .i64 kk, vi, (.slice none 0 0), vn, .slice none 0 0, .slice none 0 0, .int .i64 0, .int .i64 0])])) [(0, true), (1, true), (2, true), (3, true), (4, true), (5, true), (6, true), (7, false), (8, false), (9, true), (10, false)] (by kernel_rfl) (by kernel_rfl) (by kernel_rfl) (by kernel_rfl) (by kernel_rfl) (fun _ _ _ _ _ h => h) (heldC_drew H.out) ?_
     have H := hd9 (heldC_drew H.out)
     have U := hd9 (U.out.keep (below_drew' (Below.refl _ _)))
     refine runC_partV (b := b) (by kernel_rfl) (show opAt (opsOf Tryz.f19 15) 0 = some (some 69, .fieldAddr 31 (.tmp 5) 1, none) from by kernel_rfl) (by kernel_rfl) (by kernel_rfl) (by kernel_rfl) ?_
     refine runC_cell (b := b) (j := 1) (v := vi) load_its (show opAt (opsOf Tryz.f19 15) 1 = some (some 70, .load 28 (.tmp 69), none) from by kernel_rfl) (by kernel_rfl) (by kernel_rfl) (by kernel_rfl) (mt9 mh9) rfl ?_
     refine runC_partV (b := w.heap.size) (by kernel_rfl) (show opAt (opsOf Tryz.f19 15) 2 = some (some 71, .fieldAddr 31 (.tmp 2) 1, none) from by kernel_rfl) (by kernel_rfl) (by kernel_rfl) (by kernel_rfl) ?_
     refine runC_cell (b := w.heap.size) (j := 1) (v := .slice (some ⟨ba, off, none⟩) n ci) load_its (show opAt (opsOf Tryz.f19 15) 3 = some (some 72, .load 28 (.tmp 71), none) from by kernel_rfl) (by kernel_rfl) (by kernel_rfl) (by kernel_rfl) mh9 rfl ?_
     refine run_mov (v := .int .i64 ((q : Int))) (show opAt (opsOf Tryz.f19 15) 4 = some (some 73, .move (.tmp 7), none) from by kernel_rfl) (by kernel_rfl) (by kernel_rfl) (by kernel_rfl) ?_
     refine run_idx3 (n := n) (c := ci) (b := ba) (off := off) (k := q) (show opAt (opsOf Tryz.f19 15) 5 = some (some 74, .indexAddr 28 (.tmp 72) (.tmp 73), none) from by kernel_rfl) (by kernel_rfl) (by kernel_rfl) (by kernel_rfl) (by kernel_rfl) hq ?_
     refine runC_oldI (b := ba) (j := off + q * 3) (z := x) (show opAt (opsOf Tryz.f19 15) 6 = some (some 75, .load 64 (.tmp 74), none) from by kernel_rfl) (by kernel_rfl) (by kernel_rfl) (by kernel_rfl) hbaw c0 c1 c2 ?_
     refine tail_its3 x (show opAt (opsOf Tryz.f19 15) 7 = some (some 76, .buildSlice 28 1 #[(0, (.tmp 75))], none) from by kernel_rfl) (by kernel_rfl) (by kernel_rfl) (show opAt (opsOf Tryz.f19 15) 8 = some (some 77, .call { callee := .builtin .append, args := [(.tmp 70), (.tmp 76)].toArray, argTypes := [28, 28].toArray }, none) from by kernel_rfl) (by kernel_rfl) (fun _ => by kernel_rfl) (show opAt (opsOf Tryz.f19 15) 9 = some (some 78, .fieldAddr 31 (.tmp 5) 1, none) from by kernel_rfl) (by kernel_rfl) (by kernel_rfl) (fun _ _ => by kernel_rfl) (show opAt (opsOf Tryz.f19 15) 10 = some (none, .store 28 (.tmp 78) (.tmp 77), none) from by kernel_rfl) (by kernel_rfl) (by kernel_rfl) H.out U.out.i LN.out (Nat.succ_le_of_lt (gs9.1 (heldC_at H.out (mt9 mh9))).1) W0.out (mt9 mh9) rfl (Nat.lt_succ_self _) B0'.out (fun q hq => far_two FAR.out (Nat.lt_succ_of_lt hbw) (Nat.lt_succ_self _) hq) ?_
     rintro v' w2 ⟨sa, sn, sc2, rfl⟩ hK hO hB hZ hR hG
     simp only [putAll, Act.put, List.setIfInBounds_toArray, List.set_cons_zero, List.set_cons_succ]
     have KA1 := heldC_at H.out mh9
     have KR1 := heldC_at H.out mh9
     have hwa := (gs9.1 KA1).1
     have U := hd9 (U.out.setI hO hR (fun g hlo hg hne => hG g hg (by omega) hne) hZ)
     have KA := hd9 (show w2.heap[w.heap.size]? = some (.cells #[.int .i64 kk, .slice (some ⟨ba, off, none⟩) n ci, .slice ap parts.length cp, .slice (some ⟨bn, offn, none⟩) nn cn, .slice ac cls.length cc, .slice al levels.length cl, .int .i64 code, .int .i64 env] 31 (0, 0)) from (hG _ hwa (by omega) (fun e => by have := FAR.out _ e; omega)).trans KA1)
     have KB := hd9 (show w2.heap[b]? = some (.cells #[.int .i64 kk, .slice sa sn sc2, .slice none 0 0, vn, .slice none 0 0, .slice none 0 0, .int .i64 0, .int .i64 0] 31 (0, 0)) from hK)
     have BW := hd9 hB
     have KR := hd9 (show w2.heap[w.heap.size + 1]? = some (.cells #[.int .i64 0, .slice none 0 0, .slice none 0 0, .slice none 0 0, .slice none 0 0, .slice none 0 0, .int .i64 0, .int .i64 0] 31 (0, 0)) from (hG _ hKR (by omega) (fun e => by have := FAR.out _ e; omega)).trans KRW.out)
     clear hK hO hB hR hG hZ H FAR LN KA1 KR1 hwa
     obtain ⟨a0, a1, a2, a3, a4, a5, a6, a7⟩ := vec8 KA.out
     have hKR := (gs9.1 KR.out).1
     have KRW := KR
     have LN := hd9 (show (pkL ⟨#[]⟩ (misN names) (idx.take k)).length ≤ 1048576 by have := LM.out k; omega)
     have FAR := hd9 (fun g hg => (U.out.n.lt g hg).1)
     have H := hd9 (show HeldC w w2 ([(w.heap.size, 31, #[.int .i64 kk, .slice (some ⟨ba, off, none⟩) n ci, .slice ap parts.length cp, .slice (some ⟨bn, offn, none⟩) nn cn, .slice ac cls.length cc, .slice al levels.length cl, .int .i64 code, .int .i64 env]), (b, 31, #[.int .i64 kk, .slice sa sn sc2, .slice none 0 0, vn, .slice none 0 0, .slice none 0 0, .int .i64 0, .int .i64 0])]) from heldC_cons (heldC_cons ⟨BW.out, (fun _ h => by cases h)⟩ KB.out) KA.out)
     go_upto_region 18 with (fail)
     clear a0 a1 a2 a3 a4 a5 a6 a7
     refine run_region (ops := (opsOf Tryz.f19 18)) (S := fun w' => HeldC w w' ([(w.heap.size, 31, #[.int .i64 kk, .slice (some ⟨ba, off, none⟩) n ci, .slice ap parts.length cp, .slice (some ⟨bn, offn, none⟩) nn cn, .slice ac cls.length cc, .slice al levels.length cl, .int .i64 code, .int .i64 env]), (b, 31, #[.int .i64 kk, (.slice sa sn sc2), (.slice none 0 0), vn, .slice none 0 0, .slice none 0 0, .int .i64 0, .int .i64 0])])) [(0, true), (1, true), (2, true), (3, true), (4, true), (5, true), (6, true), (7, false), (8, false), (9, true), (10, false)] (by kernel_rfl) (by kernel_rfl) (by kernel_rfl) (by kernel_rfl) (by kernel_rfl) (fun _ _ _ _ _ h => h) (heldC_drew H.out) ?_
     have H := hd9 (heldC_drew H.out)
     have U := hd9 (U.out.keep (below_drew' (Below.refl _ _)))
     refine runC_partV (b := b) (by kernel_rfl) (show opAt (opsOf Tryz.f19 18) 0 = some (some 92, .fieldAddr 31 (.tmp 5) 3, none) from by kernel_rfl) (by kernel_rfl) (by kernel_rfl) (by kernel_rfl) ?_
     refine runC_cell (b := b) (j := 3) (v := vn) load_strs (show opAt (opsOf Tryz.f19 18) 1 = some (some 93, .load 24 (.tmp 92), none) from by kernel_rfl) (by kernel_rfl) (by kernel_rfl) (by kernel_rfl) (mt9 mh9) rfl ?_
     refine runC_partV (b := w.heap.size) (by kernel_rfl) (show opAt (opsOf Tryz.f19 18) 2 = some (some 94, .fieldAddr 31 (.tmp 2) 3, none) from by kernel_rfl) (by kernel_rfl) (by kernel_rfl) (by kernel_rfl) ?_
     refine runC_cell (b := w.heap.size) (j := 3) (v := .slice (some ⟨bn, offn, none⟩) nn cn) load_strs (show opAt (opsOf Tryz.f19 18) 3 = some (some 95, .load 24 (.tmp 94), none) from by kernel_rfl) (by kernel_rfl) (by kernel_rfl) (by kernel_rfl) mh9 rfl ?_
     refine run_mov (v := .int .i64 ((q : Int))) (show opAt (opsOf Tryz.f19 18) 4 = some (some 96, .move (.tmp 7), none) from by kernel_rfl) (by kernel_rfl) (by kernel_rfl) (by kernel_rfl) ?_
     refine run_idx1 (n := nn) (c := cn) (b := bn) (off := offn) (k := q) (show opAt (opsOf Tryz.f19 18) 5 = some (some 97, .indexAddr 24 (.tmp 95) (.tmp 96), none) from by kernel_rfl) (by kernel_rfl) (by kernel_rfl) (by kernel_rfl) (by kernel_rfl) hqn Tryz.underlying24 (by kernel_rfl) infoStr ?_
     refine runC_old (b := bn) (j := offn + q) (v := .string s) load_text (show opAt (opsOf Tryz.f19 18) 6 = some (some 98, .load 9 (.tmp 97), none) from by kernel_rfl) (by kernel_rfl) (by kernel_rfl) (by kernel_rfl) hbnw cn0 ?_
     refine tail_txs3 s (show opAt (opsOf Tryz.f19 18) 7 = some (some 99, .buildSlice 24 1 #[(0, (.tmp 98))], none) from by kernel_rfl) (by kernel_rfl) (by kernel_rfl) (show opAt (opsOf Tryz.f19 18) 8 = some (some 100, .call { callee := .builtin .append, args := [(.tmp 93), (.tmp 99)].toArray, argTypes := [24, 24].toArray }, none) from by kernel_rfl) (by kernel_rfl) (fun _ => by kernel_rfl) (show opAt (opsOf Tryz.f19 18) 9 = some (some 101, .fieldAddr 31 (.tmp 5) 3, none) from by kernel_rfl) (by kernel_rfl) (by kernel_rfl) (fun _ _ => by kernel_rfl) (show opAt (opsOf Tryz.f19 18) 10 = some (none, .store 24 (.tmp 101) (.tmp 100), none) from by kernel_rfl) (by kernel_rfl) (by kernel_rfl) H.out U.out.n LN.out (Nat.succ_le_of_lt (gs9.1 (heldC_at H.out (mt9 mh9))).1) W0.out (mt9 mh9) rfl (Nat.lt_succ_self _) B0'.out (fun q hq => far_two FAR.out (Nat.lt_succ_of_lt hbw) (Nat.lt_succ_self _) hq) ?_
     rintro v' w3 ⟨sa3, sn3, sc3, rfl⟩ hK hO hB hZ hR hG
     simp only [putAll, Act.put, List.setIfInBounds_toArray, List.set_cons_zero, List.set_cons_succ]
     have KA1 := heldC_at H.out mh9
     have KR1 := heldC_at H.out mh9
     have hwa := (gs9.1 KA1).1
     have U := hd9 (U.out.setN hO hR (fun g hlo hg hne => hG g hg (by omega) hne) hZ)
     have KA := hd9 (show w3.heap[w.heap.size]? = some (.cells #[.int .i64 kk, .slice (some ⟨ba, off, none⟩) n ci, .slice ap parts.length cp, .slice (some ⟨bn, offn, none⟩) nn cn, .slice ac cls.length cc, .slice al levels.length cl, .int .i64 code, .int .i64 env] 31 (0, 0)) from (hG _ hwa (by omega) (fun e => by have := FAR.out _ e; omega)).trans KA1)
     have KB := hd9 (show w3.heap[b]? = some (.cells #[.int .i64 kk, .slice sa sn sc2, .slice none 0 0, .slice sa3 sn3 sc3, .slice none 0 0, .slice none 0 0, .int .i64 0, .int .i64 0] 31 (0, 0)) from hK)
     have BW := hd9 hB
     have KR := hd9 (show w3.heap[w.heap.size + 1]? = some (.cells #[.int .i64 0, .slice none 0 0, .slice none 0 0, .slice none 0 0, .slice none 0 0, .slice none 0 0, .int .i64 0, .int .i64 0] 31 (0, 0)) from (hG _ hKR (by omega) (fun e => by have := FAR.out _ e; omega)).trans KRW.out)
     clear hK hO hB hR hG hZ H FAR LN KA1 KR1 hwa
     go_wp2
     go_roundw
     case rel => first | exact ⟨k + 1, _, _, by omega, by go_num, BW.out, KA.out, KR.out, KB.out, by rw [NXI.out, NXN.out]; exact U.out⟩ | ((repeat apply Exists.intro); exact ⟨⟨k + 1, _, _, by omega, by go_num, BW.out, KA.out, KR.out, KB.out, by rw [NXI.out, NXN.out]; exact U.out⟩, rfl⟩)
     case measure => simp [intOf]; omega
   ·have hq := hq.symm
    subst hq
    have NXI := hd9 (by rw [XI1.out] at NXI; exact NXI.out)
    have PNk := hd9 (fun h => by have e := PNk.out h; rw [XN1.out h] at e; exact e)
    clear INk
    have IY := hd9 (by have h := l1In_any (z - 1) 0 ((n : Int) - 1); intro W; have h := h W; rw [decide_eq_false (by omega)] at h; exact h : ∀ W : World, Calls Tryz.prog 38 #[.int .i64 (z - 1), .int .i64 0, .int .i64 ((n : Int) - 1)] W fun e w' => e = .returned (.bool false) ∧ W = w')
    obtain ⟨a0, a1, a2, a3, a4, a5, a6, a7⟩ := vec8 KA.out
    go_wp2_with fail
    with_reducible refine (LE.out _).mono ?_
    rintro e wl ⟨rfl, b'⟩
    have BW := hd9 (below_then BW.out b')
    have KA := hd9 (blk_below b' KA.out)
    have KR := hd9 (blk_below b' KR.out)
    have KB := hd9 (blk_below b' KB.out)
    have U := hd9 (U.out.below b')
    clear b' a0 a1 a2 a3 a4 a5 a6 a7
    go_wp2_with fail
    with_reducible refine (IY.out _).mono ?_
    rintro e w' ⟨rfl, rfl⟩
    obtain ⟨a0, a1, a2, a3, a4, a5, a6, a7⟩ := vec8 KA.out
    have hbl := (gs9.1 KB.out).1
    have hKR := (gs9.1 KR.out).1
    have KRW := KR
    have UW := U
    by_cases h0 : nn = 0
    ·have e0 := P0.out h0 (k + 1)
     have e1 := P0.out h0 k
     have hn0 : (nn : Int) ≤ 0 := by omega
     have H0 := hd9 h0
     clear h0
     have LN := hd9 (show (pkL noI (items ++ [noI]) (idx.take k)).length ≤ 1048576 by have := LI.out k; omega)
     have FAR := hd9 (fun g hg => (U.out.i.lt g hg).1)
     have H := hd9 (show HeldC w wl ([(w.heap.size, 31, #[.int .i64 kk, .slice ai n ci, .slice ap parts.length cp, .slice an nn cn, .slice ac cls.length cc, .slice al levels.length cl, .int .i64 code, .int .i64 env]), (b, 31, #[.int .i64 kk, vi, .slice none 0 0, vn, .slice none 0 0, .slice none 0 0, .int .i64 0, .int .i64 0])]) from heldC_cons (heldC_cons ⟨BW.out, (fun _ h => by cases h)⟩ KB.out) KA.out)
     go_upto_region 16 with (fail)
     clear a0 a1 a2 a3 a4 a5 a6 a7
     refine run_region_seq (ops := (opsOf Tryz.f19 16)) (S := fun w' => HeldC w w' ([(w.heap.size, 31, #[.int .i64 kk, .slice ai n ci, .slice ap parts.length cp, .slice an nn cn, .slice ac cls.length cc, .slice al levels.length cl, .int .i64 code, .int .i64 env]), (b, 31, #[.int .i64 kk, vi, (.slice none 0 0), vn, .slice none 0 0, .slice none 0 0, .int .i64 0, .int .i64 0])])) [(0, true), (1, true), (2, true), (3, false), (4, false), (5, true), (6, false)] (by kernel_rfl) (by kernel_rfl) (by kernel_rfl) H.out ?_
     refine runC_partV (b := b) (by kernel_rfl) (show opAt (opsOf Tryz.f19 16) 0 = some (some 79, .fieldAddr 31 (.tmp 5) 1, none) from by kernel_rfl) (by kernel_rfl) (by kernel_rfl) (by kernel_rfl) ?_
     refine runC_cell (b := b) (j := 1) (v := vi) load_its (show opAt (opsOf Tryz.f19 16) 1 = some (some 80, .load 28 (.tmp 79), none) from by kernel_rfl) (by kernel_rfl) (by kernel_rfl) (by kernel_rfl) (mt9 mh9) rfl ?_
     refine bldI0Z (show opAt (opsOf Tryz.f19 16) 2 = some (some 81, .build 64 #[], none) from by kernel_rfl) (by kernel_rfl) (by kernel_rfl) ?_
     refine tail_its3 noI (show opAt (opsOf Tryz.f19 16) 3 = some (some 82, .buildSlice 28 1 #[(0, (.tmp 81))], none) from by kernel_rfl) (by kernel_rfl) (by kernel_rfl) (show opAt (opsOf Tryz.f19 16) 4 = some (some 83, .call { callee := .builtin .append, args := [(.tmp 80), (.tmp 82)].toArray, argTypes := [28, 28].toArray }, none) from by kernel_rfl) (by kernel_rfl) (fun _ => by kernel_rfl) (show opAt (opsOf Tryz.f19 16) 5 = some (some 84, .fieldAddr 31 (.tmp 5) 1, none) from by kernel_rfl) (by kernel_rfl) (by kernel_rfl) (fun _ _ => by kernel_rfl) (show opAt (opsOf Tryz.f19 16) 6 = some (none, .store 28 (.tmp 84) (.tmp 83), none) from by kernel_rfl) (by kernel_rfl) (by kernel_rfl) H.out U.out.i LN.out (Nat.succ_le_of_lt (gs9.1 (heldC_at H.out (mt9 mh9))).1) W0.out (mt9 mh9) rfl (Nat.lt_succ_self _) B0'.out (fun q hq => far_two FAR.out (Nat.lt_succ_of_lt hbw) (Nat.lt_succ_self _) hq) ?_
     rintro v' w2 ⟨sa, sn, sc2, rfl⟩ hK hO hB hZ hR hG
     simp only [putAll, Act.put, List.setIfInBounds_toArray, List.set_cons_zero, List.set_cons_succ]
     have KA1 := heldC_at H.out mh9
     have KR1 := heldC_at H.out mh9
     have hwa := (gs9.1 KA1).1
     have U := hd9 (U.out.setI hO hR (fun g hlo hg hne => hG g hg (by omega) hne) hZ)
     have KA := hd9 (show w2.heap[w.heap.size]? = some (.cells #[.int .i64 kk, .slice ai n ci, .slice ap parts.length cp, .slice an nn cn, .slice ac cls.length cc, .slice al levels.length cl, .int .i64 code, .int .i64 env] 31 (0, 0)) from (hG _ hwa (by omega) (fun e => by have := FAR.out _ e; omega)).trans KA1)
     have KB := hd9 (show w2.heap[b]? = some (.cells #[.int .i64 kk, .slice sa sn sc2, .slice none 0 0, vn, .slice none 0 0, .slice none 0 0, .int .i64 0, .int .i64 0] 31 (0, 0)) from hK)
     have BW := hd9 hB
     have KR := hd9 (show w2.heap[w.heap.size + 1]? = some (.cells #[.int .i64 0, .slice none 0 0, .slice none 0 0, .slice none 0 0, .slice none 0 0, .slice none 0 0, .int .i64 0, .int .i64 0] 31 (0, 0)) from (hG _ hKR (by omega) (fun e => by have := FAR.out _ e; omega)).trans KRW.out)
     clear hK hO hB hR hG hZ H FAR LN KA1 KR1 hwa
     obtain ⟨a0, a1, a2, a3, a4, a5, a6, a7⟩ := vec8 KA.out
     go_wp2
     go_roundw
     case rel => first | exact ⟨k + 1, _, vn, by omega, by go_num, BW.out, KA.out, KR.out, KB.out, by rw [NXI.out, e0]; rw [e1] at U; exact U.out⟩ | ((repeat apply Exists.intro); exact ⟨⟨k + 1, _, vn, by omega, by go_num, BW.out, KA.out, KR.out, KB.out, by rw [NXI.out, e0]; rw [e1] at U; exact U.out⟩, rfl⟩)
     case measure => simp [intOf]; omega
    ·have hn0 : 0 < (nn : Int) := by omega
     have NXN := hd9 (PNk.out h0)
     have LN := hd9 (show (pkL noI (items ++ [noI]) (idx.take k)).length ≤ 1048576 by have := LI.out k; omega)
     have FAR := hd9 (fun g hg => (U.out.i.lt g hg).1)
     have H := hd9 (show HeldC w wl ([(w.heap.size, 31, #[.int .i64 kk, .slice ai n ci, .slice ap parts.length cp, .slice an nn cn, .slice ac cls.length cc, .slice al levels.length cl, .int .i64 code, .int .i64 env]), (b, 31, #[.int .i64 kk, vi, .slice none 0 0, vn, .slice none 0 0, .slice none 0 0, .int .i64 0, .int .i64 0])]) from heldC_cons (heldC_cons ⟨BW.out, (fun _ h => by cases h)⟩ KB.out) KA.out)
     go_upto_region 16 with (fail)
     clear a0 a1 a2 a3 a4 a5 a6 a7
     refine run_region_seq (ops := (opsOf Tryz.f19 16)) (S := fun w' => HeldC w w' ([(w.heap.size, 31, #[.int .i64 kk, .slice ai n ci, .slice ap parts.length cp, .slice an nn cn, .slice ac cls.length cc, .slice al levels.length cl, .int .i64 code, .int .i64 env]), (b, 31, #[.int .i64 kk, vi, (.slice none 0 0), vn, .slice none 0 0, .slice none 0 0, .int .i64 0, .int .i64 0])])) [(0, true), (1, true), (2, true), (3, false), (4, false), (5, true), (6, false)] (by kernel_rfl) (by kernel_rfl) (by kernel_rfl) H.out ?_
     refine runC_partV (b := b) (by kernel_rfl) (show opAt (opsOf Tryz.f19 16) 0 = some (some 79, .fieldAddr 31 (.tmp 5) 1, none) from by kernel_rfl) (by kernel_rfl) (by kernel_rfl) (by kernel_rfl) ?_
     refine runC_cell (b := b) (j := 1) (v := vi) load_its (show opAt (opsOf Tryz.f19 16) 1 = some (some 80, .load 28 (.tmp 79), none) from by kernel_rfl) (by kernel_rfl) (by kernel_rfl) (by kernel_rfl) (mt9 mh9) rfl ?_
     refine bldI0Z (show opAt (opsOf Tryz.f19 16) 2 = some (some 81, .build 64 #[], none) from by kernel_rfl) (by kernel_rfl) (by kernel_rfl) ?_
     refine tail_its3 noI (show opAt (opsOf Tryz.f19 16) 3 = some (some 82, .buildSlice 28 1 #[(0, (.tmp 81))], none) from by kernel_rfl) (by kernel_rfl) (by kernel_rfl) (show opAt (opsOf Tryz.f19 16) 4 = some (some 83, .call { callee := .builtin .append, args := [(.tmp 80), (.tmp 82)].toArray, argTypes := [28, 28].toArray }, none) from by kernel_rfl) (by kernel_rfl) (fun _ => by kernel_rfl) (show opAt (opsOf Tryz.f19 16) 5 = some (some 84, .fieldAddr 31 (.tmp 5) 1, none) from by kernel_rfl) (by kernel_rfl) (by kernel_rfl) (fun _ _ => by kernel_rfl) (show opAt (opsOf Tryz.f19 16) 6 = some (none, .store 28 (.tmp 84) (.tmp 83), none) from by kernel_rfl) (by kernel_rfl) (by kernel_rfl) H.out U.out.i LN.out (Nat.succ_le_of_lt (gs9.1 (heldC_at H.out (mt9 mh9))).1) W0.out (mt9 mh9) rfl (Nat.lt_succ_self _) B0'.out (fun q hq => far_two FAR.out (Nat.lt_succ_of_lt hbw) (Nat.lt_succ_self _) hq) ?_
     rintro v' w2 ⟨sa, sn, sc2, rfl⟩ hK hO hB hZ hR hG
     simp only [putAll, Act.put, List.setIfInBounds_toArray, List.set_cons_zero, List.set_cons_succ]
     have KA1 := heldC_at H.out mh9
     have KR1 := heldC_at H.out mh9
     have hwa := (gs9.1 KA1).1
     have U := hd9 (U.out.setI hO hR (fun g hlo hg hne => hG g hg (by omega) hne) hZ)
     have KA := hd9 (show w2.heap[w.heap.size]? = some (.cells #[.int .i64 kk, .slice ai n ci, .slice ap parts.length cp, .slice an nn cn, .slice ac cls.length cc, .slice al levels.length cl, .int .i64 code, .int .i64 env] 31 (0, 0)) from (hG _ hwa (by omega) (fun e => by have := FAR.out _ e; omega)).trans KA1)
     have KB := hd9 (show w2.heap[b]? = some (.cells #[.int .i64 kk, .slice sa sn sc2, .slice none 0 0, vn, .slice none 0 0, .slice none 0 0, .int .i64 0, .int .i64 0] 31 (0, 0)) from hK)
     have BW := hd9 hB
     have KR := hd9 (show w2.heap[w.heap.size + 1]? = some (.cells #[.int .i64 0, .slice none 0 0, .slice none 0 0, .slice none 0 0, .slice none 0 0, .slice none 0 0, .int .i64 0, .int .i64 0] 31 (0, 0)) from (hG _ hKR (by omega) (fun e => by have := FAR.out _ e; omega)).trans KRW.out)
     clear hK hO hB hR hG hZ H FAR LN KA1 KR1 hwa
     obtain ⟨a0, a1, a2, a3, a4, a5, a6, a7⟩ := vec8 KA.out
     have hKR := (gs9.1 KR.out).1
     have KRW := KR
     have LN := hd9 (show (pkL ⟨#[]⟩ (misN names) (idx.take k)).length ≤ 1048576 by have := LM.out k; omega)
     have FAR := hd9 (fun g hg => (U.out.n.lt g hg).1)
     have H := hd9 (show HeldC w w2 ([(w.heap.size, 31, #[.int .i64 kk, .slice ai n ci, .slice ap parts.length cp, .slice an nn cn, .slice ac cls.length cc, .slice al levels.length cl, .int .i64 code, .int .i64 env]), (b, 31, #[.int .i64 kk, .slice sa sn sc2, .slice none 0 0, vn, .slice none 0 0, .slice none 0 0, .int .i64 0, .int .i64 0])]) from heldC_cons (heldC_cons ⟨BW.out, (fun _ h => by cases h)⟩ KB.out) KA.out)
     go_upto_region 20 with (fail)
     clear a0 a1 a2 a3 a4 a5 a6 a7
     refine run_region_seq (ops := (opsOf Tryz.f19 20)) (S := fun w' => HeldC w w' ([(w.heap.size, 31, #[.int .i64 kk, .slice ai n ci, .slice ap parts.length cp, .slice an nn cn, .slice ac cls.length cc, .slice al levels.length cl, .int .i64 code, .int .i64 env]), (b, 31, #[.int .i64 kk, (.slice sa sn sc2), (.slice none 0 0), vn, .slice none 0 0, .slice none 0 0, .int .i64 0, .int .i64 0])])) [(0, true), (1, true), (2, false), (3, false), (4, true), (5, false)] (by kernel_rfl) (by kernel_rfl) (by kernel_rfl) H.out ?_
     refine runC_partV (b := b) (by kernel_rfl) (show opAt (opsOf Tryz.f19 20) 0 = some (some 106, .fieldAddr 31 (.tmp 5) 3, none) from by kernel_rfl) (by kernel_rfl) (by kernel_rfl) (by kernel_rfl) ?_
     refine runC_cell (b := b) (j := 3) (v := vn) load_strs (show opAt (opsOf Tryz.f19 20) 1 = some (some 107, .load 24 (.tmp 106), none) from by kernel_rfl) (by kernel_rfl) (by kernel_rfl) (by kernel_rfl) (mt9 mh9) rfl ?_
     refine tail_txs3 naB (show opAt (opsOf Tryz.f19 20) 2 = some (some 108, .buildSlice 24 1 #[(0, (.const (.string ⟨#[60, 78, 65, 62]⟩)))], none) from by kernel_rfl) (by kernel_rfl) (by kernel_rfl) (show opAt (opsOf Tryz.f19 20) 3 = some (some 109, .call { callee := .builtin .append, args := [(.tmp 107), (.tmp 108)].toArray, argTypes := [24, 24].toArray }, none) from by kernel_rfl) (by kernel_rfl) (fun _ => by kernel_rfl) (show opAt (opsOf Tryz.f19 20) 4 = some (some 110, .fieldAddr 31 (.tmp 5) 3, none) from by kernel_rfl) (by kernel_rfl) (by kernel_rfl) (fun _ _ => by kernel_rfl) (show opAt (opsOf Tryz.f19 20) 5 = some (none, .store 24 (.tmp 110) (.tmp 109), none) from by kernel_rfl) (by kernel_rfl) (by kernel_rfl) H.out U.out.n LN.out (Nat.succ_le_of_lt (gs9.1 (heldC_at H.out (mt9 mh9))).1) W0.out (mt9 mh9) rfl (Nat.lt_succ_self _) B0'.out (fun q hq => far_two FAR.out (Nat.lt_succ_of_lt hbw) (Nat.lt_succ_self _) hq) ?_
     rintro v' w3 ⟨sa3, sn3, sc3, rfl⟩ hK hO hB hZ hR hG
     simp only [putAll, Act.put, List.setIfInBounds_toArray, List.set_cons_zero, List.set_cons_succ]
     have KA1 := heldC_at H.out mh9
     have KR1 := heldC_at H.out mh9
     have hwa := (gs9.1 KA1).1
     have U := hd9 (U.out.setN hO hR (fun g hlo hg hne => hG g hg (by omega) hne) hZ)
     have KA := hd9 (show w3.heap[w.heap.size]? = some (.cells #[.int .i64 kk, .slice ai n ci, .slice ap parts.length cp, .slice an nn cn, .slice ac cls.length cc, .slice al levels.length cl, .int .i64 code, .int .i64 env] 31 (0, 0)) from (hG _ hwa (by omega) (fun e => by have := FAR.out _ e; omega)).trans KA1)
     have KB := hd9 (show w3.heap[b]? = some (.cells #[.int .i64 kk, .slice sa sn sc2, .slice none 0 0, .slice sa3 sn3 sc3, .slice none 0 0, .slice none 0 0, .int .i64 0, .int .i64 0] 31 (0, 0)) from hK)
     have BW := hd9 hB
     have KR := hd9 (show w3.heap[w.heap.size + 1]? = some (.cells #[.int .i64 0, .slice none 0 0, .slice none 0 0, .slice none 0 0, .slice none 0 0, .slice none 0 0, .int .i64 0, .int .i64 0] 31 (0, 0)) from (hG _ hKR (by omega) (fun e => by have := FAR.out _ e; omega)).trans KRW.out)
     clear hK hO hB hR hG hZ H FAR LN KA1 KR1 hwa
     go_wp2
     go_roundw
     case rel => first | exact ⟨k + 1, _, _, by omega, by go_num, BW.out, KA.out, KR.out, KB.out, by rw [NXI.out, NXN.out]; exact U.out⟩ | ((repeat apply Exists.intro); exact ⟨⟨k + 1, _, _, by omega, by go_num, BW.out, KA.out, KR.out, KB.out, by rw [NXI.out, NXN.out]; exact U.out⟩, rfl⟩)
     case measure => simp [intOf]; omega
  ·obtain rfl : k = m := by omega
   obtain ⟨si, qi, rfl⟩ := row_form U.out.i
   obtain ⟨sn, qn, Fn, rfl, hot, _, hrt, _⟩ := txs_of_row U.out.n
   have CLN := hd9 (fun (W : World) (hb : Below wr.heap.size wr W) => specCleanN kk 0 0 si none sn none none (pkL noI (items ++ [noI]) (idx.take k)).length qi 0 0 qn 0 0 0 0 (pkL ⟨#[]⟩ (misN names) (idx.take k)) (b + 1) wr.heap.size W ((hot.at_ hrt).below hb (Nat.le_refl _)) hb.size (Nat.le_trans (LM.out k) hn))
   clear hot hrt
   obtain ⟨k0, k1, k2, k3, k4, k5, k6, k7⟩ := vec8 KB.out
   have hKR := (gs9.1 KR.out).1
   go_wp2_with fail
   refine (CLN.out _ (Below.refl _ _)).mono ?_
   rintro e w5 ⟨b', hor⟩
   have BW := hd9 (below_then BW.out b')
   have KR := hd9 (blk_below b' KR.out)
   have O := hd9 ((U.out.below b').own kk)
   have hL1 : w.heap.size + 1 < b + 1 := by omega
   clear b' k0 k1 k2 k3 k4 k5 k6 k7
   obtain ⟨z0, z1, z2, z3, z4, z5, z6, z7⟩ := vec8 KR.out
   obtain ⟨f0, f1, f2, f3, f4, f5, f6, f7⟩ := free8 KR.out
   rcases hor with ⟨hex, rfl⟩ | ⟨hem, g, hg, rfl⟩
   ·have EN := hd9 (clnN_yes (l := pkL ⟨#[]⟩ (misN names) (idx.take k)) (by obtain ⟨i, h1, h2⟩ := hex; exact ⟨i, h1, fun h => h2 (empty_of_size h)⟩))
    rw [EN.out] at EV
    rw [← EV.out] at O
    clear EV EN hex
    go_wp2
    exact vec_end rfl rfl rfl KR.out ⟨_, rfl, (O.out.put8 hL1 _ _ _ _ _ _ _ _).wide (by omega) (by rw [put8_size]; exact Nat.le_refl _), put8_below BW.out (Nat.le_succ _)⟩
   ·have EN := hd9 (clnN_no (l := pkL ⟨#[]⟩ (misN names) (idx.take k)) (fun ⟨i, h1, h2⟩ => h2 (show (txtS _ i).size = 0 by rw [hem i h1]; rfl)))
    rw [EN.out] at EV
    have O := hd9 (O.out.noNames (some ⟨g, 0, none⟩) 0)
    rw [← EV.out] at O
    clear EV EN hem hg
    go_wp2
    exact vec_end rfl rfl rfl KR.out ⟨_, rfl, (O.out.put8 hL1 _ _ _ _ _ _ _ _).wide (by omega) (by rw [put8_size]; exact Nat.le_refl _), put8_below BW.out (Nat.le_succ _)⟩
end Go.Proofs.YteoalkjngkcheaaGreat

/- The reference's l4Pick, as XPickZ; with levels. -/
namespace Go.Proofs.YteoalkjngkcheaaGreat
open Go.RowKit
set_option maxRecDepth 100000
set_option linter.unusedVariables false

set_option maxHeartbeats 8000000 in
theorem specPickZ1 (d : Nat) (kk : Int) (items : List It) (parts : List Vec) (names cls levels : List ByteArray) (code env : Int) (ai ap an ac al xi : Option Addr) (ci cp cn cc cl xc lo hi B : Nat) (idx : List Nat) (p : Nat → Int) (w : World) (hI : ItemsAt lo hi w ai items) (hN : TextsAt lo hi w an names) (hC : TextsAt lo hi w ac cls) (hL : TextsAt lo hi w al levels) (hhi : hi ≤ w.heap.size)
  (li : items.length ≤ 1048576) (lp : parts.length = 0) (ln : names.length ≤ 1048576) (lc : cls.length ≤ 1048576) (ll : levels.length ≤ 1048576) (hs : IntsAt B w xi idx.length p) (hbd : ∀ i, i < idx.length → -1048576 ≤ p i ∧ p i ≤ 1048576) (hB : B ≤ w.heap.size) (hn : idx.length ≤ 1048576)
  (hk4 : ¬ kk = 4) (hk5 : ¬ kk = 5) (hin : ∀ i, i < idx.length → (p i = ((idx.getD i 0 : Nat) : Int) + 1 ∧ idx.getD i 0 < items.length) ∨ (idx.getD i 0 = items.length ∧ ¬ (1 ≤ p i ∧ p i ≤ (items.length : Int)))) (hnm : names.length ≠ 0 → names.length = items.length)
  (hl : ¬ levels.length = 0) :
  Calls Tryz.prog 19 #[.agg #[.int .i64 kk, .slice ai items.length ci, .slice ap parts.length cp, .slice an names.length cn, .slice ac cls.length cc, .slice al levels.length cl, .int .i64 code, .int .i64 env], .slice xi idx.length xc] w (ResV (d + 1) (.mk kk (pkL noI (items ++ [noI]) idx) [] (clnN (pkL ⟨#[]⟩ (misN names) idx)) (kpC levels cls) levels 0 0) w) := by
 have HLV := hd9 hl
 clear hl
 have AI := hd9 (fun (k : Nat) (w1 : World) (hk : k < items.length) (hb : Below w.heap.size w w1) => (hI.below hb hhi).at_ hk)
 have AN := hd9 (fun (k : Nat) (w1 : World) (hk : k < names.length) (hb : Below w.heap.size w w1) => (show ∃ b off, an = some ⟨b, off, none⟩ ∧ b < hi ∧ w1.cell? ⟨b, off + k, none⟩ = some (.string (names.getD k ⟨#[]⟩)) from (by obtain ⟨b, off, e, _, h1, h2⟩ := (hN.below hb hhi) k (names.getD k ⟨#[]⟩) (by simp [List.getD_eq_getElem?_getD, hk]); exact ⟨b, off, e, h1, h2⟩)))
 have SA := hd9 hs
 have IN := hd9 hin
 have BD := hd9 hbd
 have XI := hd9 (fun q (hq : q < items.length) => (by simp [List.getD_eq_getElem?_getD, List.getElem?_append_left hq] : (items ++ [noI]).getD q noI = items.getD q noI))
 have XI1 := hd9 (by simp [List.getD_eq_getElem?_getD] : (items ++ [noI]).getD items.length noI = noI)
 have XN := hd9 (fun q (hq : q < names.length) => (by rw [misN_some (by omega)]; simp [List.getD_eq_getElem?_getD, List.getElem?_append_left hq] : (misN names).getD q ⟨#[]⟩ = names.getD q ⟨#[]⟩))
 have XN1 := hd9 (fun (h : names.length ≠ 0) => (by rw [misN_some h, ← hnm h]; simp [List.getD_eq_getElem?_getD] : (misN names).getD items.length ⟨#[]⟩ = naB))
 have HC := hd9 (fun (w1 : World) (hb : Below w.heap.size w w1) => hC.below hb hhi)
 have HL := hd9 (fun (w1 : World) (hb : Below w.heap.size w w1) => hL.below hb hhi)
 have LE := hd9 (fun W => (by have h := specLen kk ai ap an ac al items.length ci parts.length cp names.length cn cls.length cc levels.length cl code env W li (by omega); rw [show lenV kk items.length parts.length = items.length by unfold lenV; rw [if_neg hk5]; omega] at h; exact h : Calls Tryz.prog 17 #[.agg #[.int .i64 kk, .slice ai items.length ci, .slice ap parts.length cp, .slice an names.length cn, .slice ac cls.length cc, .slice al levels.length cl, .int .i64 code, .int .i64 env]] W (fun e w' => e = .returned (.int .i64 (items.length : Nat)) ∧ Below W.heap.size W w')))
 have PI := hd9 (fun k (hk : k < idx.length) => pkT_succ (z := noI) (l := items ++ [noI]) (by simp) hk)
 have PN := hd9 (fun k (h : names.length ≠ 0) (hk : k < idx.length) => pkT_succ (z := ⟨#[]⟩) (l := misN names) (by rw [misN_some h]; simp) hk)
 have P0 := hd9 (fun (h : names.length = 0) k => (by rw [misN_nil h]; rfl : pkL ⟨#[]⟩ (misN names) (idx.take k) = []))
 have EV := hd9 (show (Vec.mk kk (pkL noI (items ++ [noI]) idx) [] (clnN (pkL ⟨#[]⟩ (misN names) idx)) (kpC levels cls) levels 0 0) = .mk kk (pkL noI (items ++ [noI]) (idx.take idx.length)) [] (clnN (pkL ⟨#[]⟩ (misN names) (idx.take idx.length))) (kpC levels cls) levels 0 0 by rw [pkT_full, pkT_full])
 have LI := hd9 (pkT_len noI (items ++ [noI]) idx)
 have LM := hd9 (pkT_len ⟨#[]⟩ (misN names) idx)
 have hk4b : (kk == 4) = false := beq_eq_false_iff_ne.2 hk4
 have EK := hd9 (fun (h : levels.length ≠ 0) => kpC_some (cls := cls) h)
 have EK0 := hd9 (fun (h : levels.length = 0) => (by rw [List.eq_nil_of_length_eq_zero h]; exact ⟨rfl, rfl⟩ : levels = [] ∧ kpC levels cls = []))
 have UST := hd9 (fun W => Und.start (w.heap.size + 1 + 1 + 1) W d)
 obtain ⟨V, hV⟩ : ∃ V, Vec.mk kk (pkL noI (items ++ [noI]) idx) [] (clnN (pkL ⟨#[]⟩ (misN names) idx)) (kpC levels cls) levels 0 0 = V := ⟨_, rfl⟩
 rw [hV] at EV ⊢
 obtain ⟨m, hm⟩ : ∃ m, idx.length = m := ⟨_, rfl⟩
 rw [hm] at SA IN BD PI PN EV hn ⊢
 obtain ⟨n, hn'⟩ : ∃ n, items.length = n := ⟨_, rfl⟩
 rw [hn'] at AI IN LE XI XI1 XN1 li hnm ⊢
 obtain ⟨nn, hnn⟩ : ∃ n, names.length = n := ⟨_, rfl⟩
 rw [hnn] at AN LE PN P0 XN XN1 ln hnm ⊢
 have LP := hd9 lp
 clear hV hm hn' hnn hI hN hC hL hs hin hbd hk4 hk5 lp
 go_enter Tryz.func19, Tryz.ntmps19
 go_upto_region 2 with (fail)
 obtain ⟨w1, hw1⟩ : ∃ W, ((w.alloc (.cells #[.int .i64 kk, .slice ai n ci, .slice ap parts.length cp, .slice an nn cn, .slice ac cls.length cc, .slice al levels.length cl, .int .i64 code, .int .i64 env] 31)).alloc (.cells #[.int .i64 0, .slice none 0 0, .slice none 0 0, .slice none 0 0, .slice none 0 0, .slice none 0 0, .int .i64 0, .int .i64 0] 31)).alloc (.cells #[.int .i64 kk, .slice none 0 0, .slice none 0 0, .slice none 0 0, .slice none 0 0, .slice none 0 0, .int .i64 0, .int .i64 0] 31) = W := ⟨_, rfl⟩
 have hsz : (w.alloc (.cells #[.int .i64 kk, .slice ai n ci, .slice ap parts.length cp, .slice an nn cn, .slice ac cls.length cc, .slice al levels.length cl, .int .i64 code, .int .i64 env] 31)).heap.size = w.heap.size + 1 := by simp
 have hsz2 : ((w.alloc (.cells #[.int .i64 kk, .slice ai n ci, .slice ap parts.length cp, .slice an nn cn, .slice ac cls.length cc, .slice al levels.length cl, .int .i64 code, .int .i64 env] 31)).alloc (.cells #[.int .i64 0, .slice none 0 0, .slice none 0 0, .slice none 0 0, .slice none 0 0, .slice none 0 0, .int .i64 0, .int .i64 0] 31)).heap.size = w.heap.size + 1 + 1 := by simp
 have hsz3 : w1.heap.size = w.heap.size + 1 + 1 + 1 := by rw [← hw1]; simp
 have BW := hd9 (show Below w.heap.size w w1 from hw1 ▸ ((below1 w _).alloc (by simp) _).alloc (by simp; omega) _)
 have KA := hd9 (show w1.heap[w.heap.size]? = some (.cells #[.int .i64 kk, .slice ai n ci, .slice ap parts.length cp, .slice an nn cn, .slice ac cls.length cc, .slice al levels.length cl, .int .i64 code, .int .i64 env] 31 (0, 0)) from hw1 ▸ blk_old (blk_old (blk_new w _ rfl)))
 have KR := hd9 (show w1.heap[w.heap.size + 1]? = some (.cells #[.int .i64 0, .slice none 0 0, .slice none 0 0, .slice none 0 0, .slice none 0 0, .slice none 0 0, .int .i64 0, .int .i64 0] 31 (0, 0)) from hw1 ▸ blk_old (hsz ▸ blk_new (w.alloc (.cells #[.int .i64 kk, .slice ai n ci, .slice ap parts.length cp, .slice an nn cn, .slice ac cls.length cc, .slice al levels.length cl, .int .i64 code, .int .i64 env] 31)) (.cells #[.int .i64 0, .slice none 0 0, .slice none 0 0, .slice none 0 0, .slice none 0 0, .slice none 0 0, .int .i64 0, .int .i64 0] 31) rfl))
 have KB := hd9 (show w1.heap[w.heap.size + 1 + 1]? = some (.cells #[.int .i64 kk, .slice none 0 0, .slice none 0 0, .slice none 0 0, .slice none 0 0, .slice none 0 0, .int .i64 0, .int .i64 0] 31 (0, 0)) from hw1 ▸ hsz2 ▸ blk_new ((w.alloc (.cells #[.int .i64 kk, .slice ai n ci, .slice ap parts.length cp, .slice an nn cn, .slice ac cls.length cc, .slice al levels.length cl, .int .i64 code, .int .i64 env] 31)).alloc (.cells #[.int .i64 0, .slice none 0 0, .slice none 0 0, .slice none 0 0, .slice none 0 0, .slice none 0 0, .int .i64 0, .int .i64 0] 31)) (.cells #[.int .i64 kk, .slice none 0 0, .slice none 0 0, .slice none 0 0, .slice none 0 0, .slice none 0 0, .int .i64 0, .int .i64 0] 31) rfl)
 rw [hw1]
 clear hw1 hsz hsz2
 have hrb : w.heap.size + 1 < w.heap.size + 1 + 1 := Nat.lt_succ_self _
 have hbw : w.heap.size < w.heap.size + 1 + 1 := by omega
 obtain ⟨b, hb⟩ : ∃ b, w.heap.size + 1 + 1 = b := ⟨_, rfl⟩
 rw [hb] at KB UST hsz3 hrb hbw ⊢
 clear hb
 have SL : b + 1 ≤ w1.heap.size := Nat.le_of_eq hsz3.symm
 clear hsz3
 have hl := HLV.out
 clear HLV
 have hl0 : 0 < ((levels.length : Nat) : Int) := by omega
 have U := hd9 (UST.out w1)
 have EKL := hd9 (EK.out hl)
 clear hl
 obtain ⟨a0, a1, a2, a3, a4, a5, a6, a7⟩ := vec8 KA.out
 have hltA := (gs9.1 KA.out).1
 obtain ⟨w2, hw2⟩ : ∃ W, w1.alloc (.cells #[] 9) = W := ⟨_, rfl⟩
 have B12 := hd9 (show Below w1.heap.size w1 w2 from hw2 ▸ below1 w1 _)
 have KS := hd9 (show w2.heap[w1.heap.size]? = some (.cells #[] 9 (0, 0)) from hw2 ▸ blk_new w1 _ rfl)
 have BW2 := hd9 (below_then BW.out B12.out)
 have EW := hd9 hw2
 clear hw2
 go_wp2_with (at_builtin; go_loud (rw [EW.out]; refine wpList_copyTz (w0 := w1) rfl _ _ rfl _ rfl (.inr ⟨w1.heap.size, Nat.le_refl _, rfl, KS.out⟩) B12.out ac cc cls lo hi rfl (HC.out _ BW2.out) lc ?_))
 intro v' w3 tz
 obtain ⟨sc, nc, qc, rfl⟩ := tz.form
 have U := hd9 (U.out.setC (row_lo tz.row SL) (moved_new tz.row) (fun g _ hg _ => tz.below.block g hg) tz.below.size)
 have BW := hd9 (below_then BW.out tz.below)
 have KA := hd9 (blk_below tz.below KA.out)
 have KB := hd9 (blk_below tz.below KB.out)
 have KR := hd9 (blk_below tz.below KR.out)
 have SL := Nat.le_trans SL tz.below.size
 clear tz a0 a1 a2 a3 a4 a5 a6 a7 hltA
 obtain ⟨a0, a1, a2, a3, a4, a5, a6, a7⟩ := vec8 KA.out
 obtain ⟨k0, k1, k2, k3, k4, k5, k6, k7⟩ := vec8 KB.out
 obtain ⟨g0, g1, g2, g3, g4, g5, g6, g7⟩ := free8 KB.out
 have hbb := (gs9.1 KB.out).1
 go_upto_region 4 with (fail)
 clear a0 a1 a2 a3 a4 a5 a6 a7 k0 k1 k2 k3 k4 k5 k6 k7 g0 g1 g2 g3 g4 g5 g6 g7 hbb
 obtain ⟨w4, hw⟩ : ∃ W, w3.setCell ⟨b, 4, none⟩ (.slice sc nc qc) = W := ⟨_, rfl⟩
 have KB := hd9 (show w4.heap[b]? = some (.cells #[.int .i64 kk, .slice none 0 0, .slice none 0 0, .slice none 0 0, .slice sc nc qc, .slice none 0 0, .int .i64 0, .int .i64 0] 31 (0, 0)) from hw ▸ Joins.block_setCell KB.out _)
 have KA := hd9 (show w4.heap[w.heap.size]? = some (.cells #[.int .i64 kk, .slice ai n ci, .slice ap parts.length cp, .slice an nn cn, .slice ac cls.length cc, .slice al levels.length cl, .int .i64 code, .int .i64 env] 31 (0, 0)) from hw ▸ (Below.heap_setCell _ _ _ _ (show w.heap.size ≠ b by omega)).trans KA.out)
 have KR := hd9 (show w4.heap[w.heap.size + 1]? = some (.cells #[.int .i64 0, .slice none 0 0, .slice none 0 0, .slice none 0 0, .slice none 0 0, .slice none 0 0, .int .i64 0, .int .i64 0] 31 (0, 0)) from hw ▸ (Below.heap_setCell _ _ _ _ (show w.heap.size + 1 ≠ b by omega)).trans KR.out)
 have BW := hd9 (show Below w.heap.size w w4 from hw ▸ BW.out.setCell (p := ⟨b, 4, none⟩) (show w.heap.size ≤ b by omega) _)
 have U := hd9 (show Und (b + 1) w4 _ _ _ _ _ _ _ _ _ _ _ _ from hw ▸ U.out.put (Nat.lt_succ_self _))
 have SL := Nat.le_trans SL (show w3.heap.size ≤ w4.heap.size from hw ▸ (by simp))
 rw [hw]
 clear hw
 obtain ⟨a0, a1, a2, a3, a4, a5, a6, a7⟩ := vec8 KA.out
 have hltA := (gs9.1 KA.out).1
 obtain ⟨w5, hw2⟩ : ∃ W, w4.alloc (.cells #[] 9) = W := ⟨_, rfl⟩
 have B12 := hd9 (show Below w4.heap.size w4 w5 from hw2 ▸ below1 w4 _)
 have KS := hd9 (show w5.heap[w4.heap.size]? = some (.cells #[] 9 (0, 0)) from hw2 ▸ blk_new w4 _ rfl)
 have BW2 := hd9 (below_then BW.out B12.out)
 have EW := hd9 hw2
 clear hw2
 go_wp2_with (at_builtin; go_loud (rw [EW.out]; refine wpList_copyTz (w0 := w4) rfl _ _ rfl _ rfl (.inr ⟨w4.heap.size, Nat.le_refl _, rfl, KS.out⟩) B12.out al cl levels lo hi rfl (HL.out _ BW2.out) ll ?_))
 intro v' w6 tz
 obtain ⟨sl, nl, ql, rfl⟩ := tz.form
 have U := hd9 (U.out.setL (row_lo tz.row SL) (moved_new tz.row) (fun g _ hg _ => tz.below.block g hg) tz.below.size)
 have BW := hd9 (below_then BW.out tz.below)
 have KA := hd9 (blk_below tz.below KA.out)
 have KB := hd9 (blk_below tz.below KB.out)
 have KR := hd9 (blk_below tz.below KR.out)
 have SL := Nat.le_trans SL tz.below.size
 clear tz a0 a1 a2 a3 a4 a5 a6 a7 hltA
 obtain ⟨a0, a1, a2, a3, a4, a5, a6, a7⟩ := vec8 KA.out
 obtain ⟨k0, k1, k2, k3, k4, k5, k6, k7⟩ := vec8 KB.out
 obtain ⟨g0, g1, g2, g3, g4, g5, g6, g7⟩ := free8 KB.out
 have hbb := (gs9.1 KB.out).1
 go_upto_region 5 with (fail)
 clear a0 a1 a2 a3 a4 a5 a6 a7 k0 k1 k2 k3 k4 k5 k6 k7 g0 g1 g2 g3 g4 g5 g6 g7 hbb
 obtain ⟨w7, hw⟩ : ∃ W, w6.setCell ⟨b, 5, none⟩ (.slice sl nl ql) = W := ⟨_, rfl⟩
 have KB := hd9 (show w7.heap[b]? = some (.cells #[.int .i64 kk, .slice none 0 0, .slice none 0 0, .slice none 0 0, .slice sc nc qc, .slice sl nl ql, .int .i64 0, .int .i64 0] 31 (0, 0)) from hw ▸ Joins.block_setCell KB.out _)
 have KA := hd9 (show w7.heap[w.heap.size]? = some (.cells #[.int .i64 kk, .slice ai n ci, .slice ap parts.length cp, .slice an nn cn, .slice ac cls.length cc, .slice al levels.length cl, .int .i64 code, .int .i64 env] 31 (0, 0)) from hw ▸ (Below.heap_setCell _ _ _ _ (show w.heap.size ≠ b by omega)).trans KA.out)
 have KR := hd9 (show w7.heap[w.heap.size + 1]? = some (.cells #[.int .i64 0, .slice none 0 0, .slice none 0 0, .slice none 0 0, .slice none 0 0, .slice none 0 0, .int .i64 0, .int .i64 0] 31 (0, 0)) from hw ▸ (Below.heap_setCell _ _ _ _ (show w.heap.size + 1 ≠ b by omega)).trans KR.out)
 have BW := hd9 (show Below w.heap.size w w7 from hw ▸ BW.out.setCell (p := ⟨b, 5, none⟩) (show w.heap.size ≤ b by omega) _)
 have U := hd9 (show Und (b + 1) w7 _ _ _ _ _ _ _ _ _ _ _ _ from hw ▸ U.out.put (Nat.lt_succ_self _))
 have SL := Nat.le_trans SL (show w6.heap.size ≤ w7.heap.size from hw ▸ (by simp))
 rw [hw]
 clear hw
 have U := hd9 (show Und (b + 1) w7 d [] [] [] (kpC levels cls) levels _ _ _ _ _ [] from by rw [EKL.out]; exact U.out)
 go_wp2
 clear hl0
 obtain ⟨dv, hdv⟩ : ∃ dv, decide (0 < levels.length) = dv := ⟨_, rfl⟩
 try rw [hdv]
 clear hdv
 have W0 := hd9 (show w.heap.size ≤ b + 1 by omega)
 have B0' := hd9 (show w.heap.size ≤ b by omega)
 go_loopw [6] (fun i wr => ∃ (k : Nat) (vi vn : Value), k ≤ m ∧ i = .int .i64 k ∧ Below w.heap.size w wr ∧ wr.heap[w.heap.size]? = some (.cells #[.int .i64 kk, .slice ai n ci, .slice ap parts.length cp, .slice an nn cn, .slice ac cls.length cc, .slice al levels.length cl, .int .i64 code, .int .i64 env] 31 (0, 0)) ∧ wr.heap[w.heap.size + 1]? = some (.cells #[.int .i64 0, .slice none 0 0, .slice none 0 0, .slice none 0 0, .slice none 0 0, .slice none 0 0, .int .i64 0, .int .i64 0] 31 (0, 0)) ∧ wr.heap[b]? = some (.cells #[.int .i64 kk, vi, .slice none 0 0, vn, .slice sc nc qc, .slice sl nl ql, .int .i64 0, .int .i64 0] 31 (0, 0)) ∧ Und (b + 1) wr d (pkL noI (items ++ [noI]) (idx.take k)) [] (pkL ⟨#[]⟩ (misN names) (idx.take k)) (kpC levels cls) levels vi (.slice none 0 0) vn (.slice sc nc qc) (.slice sl nl ql) []) (fun i _ => m - (intOf i).toNat)
 case atStart => exact ⟨0, .slice none 0 0, .slice none 0 0, Nat.zero_le _, rfl, BW.out, KA.out, KR.out, KB.out, by rw [pkT_zero, pkT_zero]; exact U.out⟩
 case round =>
  obtain ⟨k, vi, vn, hk, rfl, hbw', hka, hkr, hkb, hu⟩ := hrel
  have BW := hd9 hbw'
  have KA := hd9 hka
  have KR := hd9 hkr
  have KB := hd9 hkb
  have U := hd9 hu
  clear hbw' hka hkr hkb hu
  by_cases hlt : k < m
  ·obtain ⟨bi, oi, rfl, hbi, cx⟩ := (SA.out.below (BW.out.mono hB)) k hlt
   have hbd := BD.out k hlt
   have NXI := hd9 (PI.out k hlt)
   have PNk := hd9 (fun h => PN.out k h hlt)
   have INk := hd9 (IN.out k hlt)
   obtain ⟨q, hq'⟩ : ∃ q, idx.getD k 0 = q := ⟨_, rfl⟩
   rw [hq'] at INk NXI PNk
   clear hq'
   obtain ⟨z, hz⟩ : ∃ z, p k = z := ⟨_, rfl⟩
   rw [hz] at cx INk hbd
   clear hz
   rcases INk.out with ⟨hz, hq⟩ | ⟨hq, hz⟩
   ·subst hz
    have NXI := hd9 (by rw [XI.out q hq] at NXI; exact NXI.out)
    have PNk := hd9 (fun h => by have e := PNk.out h; rw [XN.out q (by have := hnm h; omega)] at e; exact e)
    clear INk hbd
    have IY := hd9 (fun W => inYes (q : Int) 0 ((n : Int) - 1) W (by omega) (by omega))
    obtain ⟨ba, off, rfl, hbB, c0, c1, c2'⟩ := AI.out q w hq (Below.refl _ _)
    have c2 : w.cell? ⟨ba, off + q * 3 + 2, none⟩ = some (.string (items.getD q noI).t) := c2'
    have hbaw : ba < w.heap.size := Nat.lt_of_lt_of_le hbB hhi
    obtain ⟨x, hx⟩ : ∃ x, items.getD q noI = x := ⟨_, rfl⟩
    rw [hx] at c0 c1 c2 NXI
    clear hx c2'
    obtain ⟨a0, a1, a2, a3, a4, a5, a6, a7⟩ := vec8 KA.out
    go_wp2_with fail
    with_reducible refine (LE.out _).mono ?_
    rintro e wl ⟨rfl, b'⟩
    have BW := hd9 (below_then BW.out b')
    have KA := hd9 (blk_below b' KA.out)
    have KR := hd9 (blk_below b' KR.out)
    have KB := hd9 (blk_below b' KB.out)
    have U := hd9 (U.out.below b')
    clear b' a0 a1 a2 a3 a4 a5 a6 a7
    go_wp2_with fail
    with_reducible refine (IY.out _).mono ?_
    rintro e w' ⟨rfl, rfl⟩
    obtain ⟨a0, a1, a2, a3, a4, a5, a6, a7⟩ := vec8 KA.out
    have hbl := (gs9.1 KB.out).1
    have hKR := (gs9.1 KR.out).1
    have KRW := KR
    have UW := U
    by_cases h0 : nn = 0
    ·have e0 := P0.out h0 (k + 1)
     have e1 := P0.out h0 k
     have hn0 : (nn : Int) ≤ 0 := by omega
     have H0 := hd9 h0
     clear h0
     have LN := hd9 (show (pkL noI (items ++ [noI]) (idx.take k)).length ≤ 1048576 by have := LI.out k; omega)
     have FAR := hd9 (fun g hg => (U.out.i.lt g hg).1)
     have H := hd9 (show HeldC w wl ([(w.heap.size, 31, #[.int .i64 kk, .slice (some ⟨ba, off, none⟩) n ci, .slice ap parts.length cp, .slice an nn cn, .slice ac cls.length cc, .slice al levels.length cl, .int .i64 code, .int .i64 env]), (b, 31, #[.int .i64 kk, vi, .slice none 0 0, vn, .slice sc nc qc, .slice sl nl ql, .int .i64 0, .int .i64 0])]) from heldC_cons (heldC_cons ⟨BW.out, (fun _ h => by cases h)⟩ KB.out) KA.out)
     go_upto_region 15 with (fail)
     clear a0 a1 a2 a3 a4 a5 a6 a7
     refine run_region (ops := (opsOf Tryz.f19 15)) (S := fun w' => HeldC w w' ([(w.heap.size, 31, #[.int .i64 kk, .slice (some ⟨ba, off, none⟩) n ci, .slice ap parts.length cp, .slice an nn cn, .slice ac cls.length cc, .slice al levels.length cl, .int .i64 code, .int .i64 env]), (b, 31, #[.int .i64 kk, vi, (.slice none 0 0), vn, .slice sc nc qc, .slice sl nl ql, .int .i64 0, .int .i64 0])])) [(0, true), (1, true), (2, true), (3, true), (4, true), (5, true), (6, true), (7, false), (8, false), (9, true), (10, false)] (by kernel_rfl) (by kernel_rfl) (by kernel_rfl) (by kernel_rfl) (by kernel_rfl) (fun _ _ _ _ _ h => h) (heldC_drew H.out) ?_
     have H := hd9 (heldC_drew H.out)
     have U := hd9 (U.out.keep (below_drew' (Below.refl _ _)))
     refine runC_partV (b := b) (by kernel_rfl) (show opAt (opsOf Tryz.f19 15) 0 = some (some 69, .fieldAddr 31 (.tmp 5) 1, none) from by kernel_rfl) (by kernel_rfl) (by kernel_rfl) (by kernel_rfl) ?_
     refine runC_cell (b := b) (j := 1) (v := vi) load_its (show opAt (opsOf Tryz.f19 15) 1 = some (some 70, .load 28 (.tmp 69), none) from by kernel_rfl) (by kernel_rfl) (by kernel_rfl) (by kernel_rfl) (mt9 mh9) rfl ?_
     refine runC_partV (b := w.heap.size) (by kernel_rfl) (show opAt (opsOf Tryz.f19 15) 2 = some (some 71, .fieldAddr 31 (.tmp 2) 1, none) from by kernel_rfl) (by kernel_rfl) (by kernel_rfl) (by kernel_rfl) ?_
     refine runC_cell (b := w.heap.size) (j := 1) (v := .slice (some ⟨ba, off, none⟩) n ci) load_its (show opAt (opsOf Tryz.f19 15) 3 = some (some 72, .load 28 (.tmp 71), none) from by kernel_rfl) (by kernel_rfl) (by kernel_rfl) (by kernel_rfl) mh9 rfl ?_
     refine run_mov (v := .int .i64 ((q : Int))) (show opAt (opsOf Tryz.f19 15) 4 = some (some 73, .move (.tmp 7), none) from by kernel_rfl) (by kernel_rfl) (by kernel_rfl) (by kernel_rfl) ?_
     refine run_idx3 (n := n) (c := ci) (b := ba) (off := off) (k := q) (show opAt (opsOf Tryz.f19 15) 5 = some (some 74, .indexAddr 28 (.tmp 72) (.tmp 73), none) from by kernel_rfl) (by kernel_rfl) (by kernel_rfl) (by kernel_rfl) (by kernel_rfl) hq ?_
     refine runC_oldI (b := ba) (j := off + q * 3) (z := x) (show opAt (opsOf Tryz.f19 15) 6 = some (some 75, .load 64 (.tmp 74), none) from by kernel_rfl) (by kernel_rfl) (by kernel_rfl) (by kernel_rfl) hbaw c0 c1 c2 ?_
     refine tail_its3 x (show opAt (opsOf Tryz.f19 15) 7 = some (some 76, .buildSlice 28 1 #[(0, (.tmp 75))], none) from by kernel_rfl) (by kernel_rfl) (by kernel_rfl) (show opAt (opsOf Tryz.f19 15) 8 = some (some 77, .call { callee := .builtin .append, args := [(.tmp 70), (.tmp 76)].toArray, argTypes := [28, 28].toArray }, none) from by kernel_rfl) (by kernel_rfl) (fun _ => by kernel_rfl) (show opAt (opsOf Tryz.f19 15) 9 = some (some 78, .fieldAddr 31 (.tmp 5) 1, none) from by kernel_rfl) (by kernel_rfl) (by kernel_rfl) (fun _ _ => by kernel_rfl) (show opAt (opsOf Tryz.f19 15) 10 = some (none, .store 28 (.tmp 78) (.tmp 77), none) from by kernel_rfl) (by kernel_rfl) (by kernel_rfl) H.out U.out.i LN.out (Nat.succ_le_of_lt (gs9.1 (heldC_at H.out (mt9 mh9))).1) W0.out (mt9 mh9) rfl (Nat.lt_succ_self _) B0'.out (fun q hq => far_two FAR.out (Nat.lt_succ_of_lt hbw) (Nat.lt_succ_self _) hq) ?_
     rintro v' w2 ⟨sa, sn, sc2, rfl⟩ hK hO hB hZ hR hG
     simp only [putAll, Act.put, List.setIfInBounds_toArray, List.set_cons_zero, List.set_cons_succ]
     have KA1 := heldC_at H.out mh9
     have KR1 := heldC_at H.out mh9
     have hwa := (gs9.1 KA1).1
     have U := hd9 (U.out.setI hO hR (fun g hlo hg hne => hG g hg (by omega) hne) hZ)
     have KA := hd9 (show w2.heap[w.heap.size]? = some (.cells #[.int .i64 kk, .slice (some ⟨ba, off, none⟩) n ci, .slice ap parts.length cp, .slice an nn cn, .slice ac cls.length cc, .slice al levels.length cl, .int .i64 code, .int .i64 env] 31 (0, 0)) from (hG _ hwa (by omega) (fun e => by have := FAR.out _ e; omega)).trans KA1)
     have KB := hd9 (show w2.heap[b]? = some (.cells #[.int .i64 kk, .slice sa sn sc2, .slice none 0 0, vn, .slice sc nc qc, .slice sl nl ql, .int .i64 0, .int .i64 0] 31 (0, 0)) from hK)
     have BW := hd9 hB
     have KR := hd9 (show w2.heap[w.heap.size + 1]? = some (.cells #[.int .i64 0, .slice none 0 0, .slice none 0 0, .slice none 0 0, .slice none 0 0, .slice none 0 0, .int .i64 0, .int .i64 0] 31 (0, 0)) from (hG _ hKR (by omega) (fun e => by have := FAR.out _ e; omega)).trans KRW.out)
     clear hK hO hB hR hG hZ H FAR LN KA1 KR1 hwa
     obtain ⟨a0, a1, a2, a3, a4, a5, a6, a7⟩ := vec8 KA.out
     go_wp2
     go_roundw
     case rel => first | exact ⟨k + 1, _, vn, by omega, by go_num, BW.out, KA.out, KR.out, KB.out, by rw [NXI.out, e0]; rw [e1] at U; exact U.out⟩ | ((repeat apply Exists.intro); exact ⟨⟨k + 1, _, vn, by omega, by go_num, BW.out, KA.out, KR.out, KB.out, by rw [NXI.out, e0]; rw [e1] at U; exact U.out⟩, rfl⟩)
     case measure => simp [intOf]; omega
    ·have hqn : q < nn := by have := hnm h0; omega
     have hn0 : 0 < (nn : Int) := by omega
     have NXN := hd9 (PNk.out h0)
     obtain ⟨bn, offn, rfl, hbN, cn0⟩ := AN.out q w hqn (Below.refl _ _)
     have hbnw : bn < w.heap.size := Nat.lt_of_lt_of_le hbN hhi
     obtain ⟨s, hs⟩ : ∃ s, names.getD q ⟨#[]⟩ = s := ⟨_, rfl⟩
     rw [hs] at cn0 NXN
     clear hs
     have LN := hd9 (show (pkL noI (items ++ [noI]) (idx.take k)).length ≤ 1048576 by have := LI.out k; omega)
     have FAR := hd9 (fun g hg => (U.out.i.lt g hg).1)
     have H := hd9 (show HeldC w wl ([(w.heap.size, 31, #[.int .i64 kk, .slice (some ⟨ba, off, none⟩) n ci, .slice ap parts.length cp, .slice (some ⟨bn, offn, none⟩) nn cn, .slice ac cls.length cc, .slice al levels.length cl, .int .i64 code, .int .i64 env]), (b, 31, #[.int .i64 kk, vi, .slice none 0 0, vn, .slice sc nc qc, .slice sl nl ql, .int .i64 0, .int .i64 0])]) from heldC_cons (heldC_cons ⟨BW.out, (fun _ h => by cases h)⟩ KB.out) KA.out)
     go_upto_region 15 with (fail)
     clear a0 a1 a2 a3 a4 a5 a6 a7
     refine run_region (ops := (opsOf Tryz.f19 15)) (S := fun w' => HeldC w w' ([(w.heap.size, 31, #[.int .i64 kk, .slice (some ⟨ba, off, none⟩) n ci, .slice ap parts.length cp, .slice (some ⟨bn, offn, none⟩) nn cn, .slice ac cls.length cc, .slice al levels.length cl, .int .i64 code, .int .i64 env]), (b, 31, #[.int .i64 kk, vi, (.slice none 0 0), vn, .slice sc nc qc, .slice sl nl ql, .int .i64 0, .int .i64 0])])) [(0, true), (1, true), (2, true), (3, true), (4, true), (5, true), (6, true), (7, false), (8, false), (9, true), (10, false)] (by kernel_rfl) (by kernel_rfl) (by kernel_rfl) (by kernel_rfl) (by kernel_rfl) (fun _ _ _ _ _ h => h) (heldC_drew H.out) ?_
     have H := hd9 (heldC_drew H.out)
     have U := hd9 (U.out.keep (below_drew' (Below.refl _ _)))
     refine runC_partV (b := b) (by kernel_rfl) (show opAt (opsOf Tryz.f19 15) 0 = some (some 69, .fieldAddr 31 (.tmp 5) 1, none) from by kernel_rfl) (by kernel_rfl) (by kernel_rfl) (by kernel_rfl) ?_
     refine runC_cell (b := b) (j := 1) (v := vi) load_its (show opAt (opsOf Tryz.f19 15) 1 = some (some 70, .load 28 (.tmp 69), none) from by kernel_rfl) (by kernel_rfl) (by kernel_rfl) (by kernel_rfl) (mt9 mh9) rfl ?_
     refine runC_partV (b := w.heap.size) (by kernel_rfl) (show opAt (opsOf Tryz.f19 15) 2 = some (some 71, .fieldAddr 31 (.tmp 2) 1, none) from by kernel_rfl) (by kernel_rfl) (by kernel_rfl) (by kernel_rfl) ?_
     refine runC_cell (b := w.heap.size) (j := 1) (v := .slice (some ⟨ba, off, none⟩) n ci) load_its (show opAt (opsOf Tryz.f19 15) 3 = some (some 72, .load 28 (.tmp 71), none) from by kernel_rfl) (by kernel_rfl) (by kernel_rfl) (by kernel_rfl) mh9 rfl ?_
     refine run_mov (v := .int .i64 ((q : Int))) (show opAt (opsOf Tryz.f19 15) 4 = some (some 73, .move (.tmp 7), none) from by kernel_rfl) (by kernel_rfl) (by kernel_rfl) (by kernel_rfl) ?_
     refine run_idx3 (n := n) (c := ci) (b := ba) (off := off) (k := q) (show opAt (opsOf Tryz.f19 15) 5 = some (some 74, .indexAddr 28 (.tmp 72) (.tmp 73), none) from by kernel_rfl) (by kernel_rfl) (by kernel_rfl) (by kernel_rfl) (by kernel_rfl) hq ?_
     refine runC_oldI (b := ba) (j := off + q * 3) (z := x) (show opAt (opsOf Tryz.f19 15) 6 = some (some 75, .load 64 (.tmp 74), none) from by kernel_rfl) (by kernel_rfl) (by kernel_rfl) (by kernel_rfl) hbaw c0 c1 c2 ?_
     refine tail_its3 x (show opAt (opsOf Tryz.f19 15) 7 = some (some 76, .buildSlice 28 1 #[(0, (.tmp 75))], none) from by kernel_rfl) (by kernel_rfl) (by kernel_rfl) (show opAt (opsOf Tryz.f19 15) 8 = some (some 77, .call { callee := .builtin .append, args := [(.tmp 70), (.tmp 76)].toArray, argTypes := [28, 28].toArray }, none) from by kernel_rfl) (by kernel_rfl) (fun _ => by kernel_rfl) (show opAt (opsOf Tryz.f19 15) 9 = some (some 78, .fieldAddr 31 (.tmp 5) 1, none) from by kernel_rfl) (by kernel_rfl) (by kernel_rfl) (fun _ _ => by kernel_rfl) (show opAt (opsOf Tryz.f19 15) 10 = some (none, .store 28 (.tmp 78) (.tmp 77), none) from by kernel_rfl) (by kernel_rfl) (by kernel_rfl) H.out U.out.i LN.out (Nat.succ_le_of_lt (gs9.1 (heldC_at H.out (mt9 mh9))).1) W0.out (mt9 mh9) rfl (Nat.lt_succ_self _) B0'.out (fun q hq => far_two FAR.out (Nat.lt_succ_of_lt hbw) (Nat.lt_succ_self _) hq) ?_
     rintro v' w2 ⟨sa, sn, sc2, rfl⟩ hK hO hB hZ hR hG
     simp only [putAll, Act.put, List.setIfInBounds_toArray, List.set_cons_zero, List.set_cons_succ]
     have KA1 := heldC_at H.out mh9
     have KR1 := heldC_at H.out mh9
     have hwa := (gs9.1 KA1).1
     have U := hd9 (U.out.setI hO hR (fun g hlo hg hne => hG g hg (by omega) hne) hZ)
     have KA := hd9 (show w2.heap[w.heap.size]? = some (.cells #[.int .i64 kk, .slice (some ⟨ba, off, none⟩) n ci, .slice ap parts.length cp, .slice (some ⟨bn, offn, none⟩) nn cn, .slice ac cls.length cc, .slice al levels.length cl, .int .i64 code, .int .i64 env] 31 (0, 0)) from (hG _ hwa (by omega) (fun e => by have := FAR.out _ e; omega)).trans KA1)
     have KB := hd9 (show w2.heap[b]? = some (.cells #[.int .i64 kk, .slice sa sn sc2, .slice none 0 0, vn, .slice sc nc qc, .slice sl nl ql, .int .i64 0, .int .i64 0] 31 (0, 0)) from hK)
     have BW := hd9 hB
     have KR := hd9 (show w2.heap[w.heap.size + 1]? = some (.cells #[.int .i64 0, .slice none 0 0, .slice none 0 0, .slice none 0 0, .slice none 0 0, .slice none 0 0, .int .i64 0, .int .i64 0] 31 (0, 0)) from (hG _ hKR (by omega) (fun e => by have := FAR.out _ e; omega)).trans KRW.out)
     clear hK hO hB hR hG hZ H FAR LN KA1 KR1 hwa
     obtain ⟨a0, a1, a2, a3, a4, a5, a6, a7⟩ := vec8 KA.out
     have hKR := (gs9.1 KR.out).1
     have KRW := KR
     have LN := hd9 (show (pkL ⟨#[]⟩ (misN names) (idx.take k)).length ≤ 1048576 by have := LM.out k; omega)
     have FAR := hd9 (fun g hg => (U.out.n.lt g hg).1)
     have H := hd9 (show HeldC w w2 ([(w.heap.size, 31, #[.int .i64 kk, .slice (some ⟨ba, off, none⟩) n ci, .slice ap parts.length cp, .slice (some ⟨bn, offn, none⟩) nn cn, .slice ac cls.length cc, .slice al levels.length cl, .int .i64 code, .int .i64 env]), (b, 31, #[.int .i64 kk, .slice sa sn sc2, .slice none 0 0, vn, .slice sc nc qc, .slice sl nl ql, .int .i64 0, .int .i64 0])]) from heldC_cons (heldC_cons ⟨BW.out, (fun _ h => by cases h)⟩ KB.out) KA.out)
     go_upto_region 18 with (fail)
     clear a0 a1 a2 a3 a4 a5 a6 a7
     refine run_region (ops := (opsOf Tryz.f19 18)) (S := fun w' => HeldC w w' ([(w.heap.size, 31, #[.int .i64 kk, .slice (some ⟨ba, off, none⟩) n ci, .slice ap parts.length cp, .slice (some ⟨bn, offn, none⟩) nn cn, .slice ac cls.length cc, .slice al levels.length cl, .int .i64 code, .int .i64 env]), (b, 31, #[.int .i64 kk, (.slice sa sn sc2), (.slice none 0 0), vn, .slice sc nc qc, .slice sl nl ql, .int .i64 0, .int .i64 0])])) [(0, true), (1, true), (2, true), (3, true), (4, true), (5, true), (6, true), (7, false), (8, false), (9, true), (10, false)] (by kernel_rfl) (by kernel_rfl) (by kernel_rfl) (by kernel_rfl) (by kernel_rfl) (fun _ _ _ _ _ h => h) (heldC_drew H.out) ?_
     have H := hd9 (heldC_drew H.out)
     have U := hd9 (U.out.keep (below_drew' (Below.refl _ _)))
     refine runC_partV (b := b) (by kernel_rfl) (show opAt (opsOf Tryz.f19 18) 0 = some (some 92, .fieldAddr 31 (.tmp 5) 3, none) from by kernel_rfl) (by kernel_rfl) (by kernel_rfl) (by kernel_rfl) ?_
     refine runC_cell (b := b) (j := 3) (v := vn) load_strs (show opAt (opsOf Tryz.f19 18) 1 = some (some 93, .load 24 (.tmp 92), none) from by kernel_rfl) (by kernel_rfl) (by kernel_rfl) (by kernel_rfl) (mt9 mh9) rfl ?_
     refine runC_partV (b := w.heap.size) (by kernel_rfl) (show opAt (opsOf Tryz.f19 18) 2 = some (some 94, .fieldAddr 31 (.tmp 2) 3, none) from by kernel_rfl) (by kernel_rfl) (by kernel_rfl) (by kernel_rfl) ?_
     refine runC_cell (b := w.heap.size) (j := 3) (v := .slice (some ⟨bn, offn, none⟩) nn cn) load_strs (show opAt (opsOf Tryz.f19 18) 3 = some (some 95, .load 24 (.tmp 94), none) from by kernel_rfl) (by kernel_rfl) (by kernel_rfl) (by kernel_rfl) mh9 rfl ?_
     refine run_mov (v := .int .i64 ((q : Int))) (show opAt (opsOf Tryz.f19 18) 4 = some (some 96, .move (.tmp 7), none) from by kernel_rfl) (by kernel_rfl) (by kernel_rfl) (by kernel_rfl) ?_
     refine run_idx1 (n := nn) (c := cn) (b := bn) (off := offn) (k := q) (show opAt (opsOf Tryz.f19 18) 5 = some (some 97, .indexAddr 24 (.tmp 95) (.tmp 96), none) from by kernel_rfl) (by kernel_rfl) (by kernel_rfl) (by kernel_rfl) (by kernel_rfl) hqn Tryz.underlying24 (by kernel_rfl) infoStr ?_
     refine runC_old (b := bn) (j := offn + q) (v := .string s) load_text (show opAt (opsOf Tryz.f19 18) 6 = some (some 98, .load 9 (.tmp 97), none) from by kernel_rfl) (by kernel_rfl) (by kernel_rfl) (by kernel_rfl) hbnw cn0 ?_
     refine tail_txs3 s (show opAt (opsOf Tryz.f19 18) 7 = some (some 99, .buildSlice 24 1 #[(0, (.tmp 98))], none) from by kernel_rfl) (by kernel_rfl) (by kernel_rfl) (show opAt (opsOf Tryz.f19 18) 8 = some (some 100, .call { callee := .builtin .append, args := [(.tmp 93), (.tmp 99)].toArray, argTypes := [24, 24].toArray }, none) from by kernel_rfl) (by kernel_rfl) (fun _ => by kernel_rfl) (show opAt (opsOf Tryz.f19 18) 9 = some (some 101, .fieldAddr 31 (.tmp 5) 3, none) from by kernel_rfl) (by kernel_rfl) (by kernel_rfl) (fun _ _ => by kernel_rfl) (show opAt (opsOf Tryz.f19 18) 10 = some (none, .store 24 (.tmp 101) (.tmp 100), none) from by kernel_rfl) (by kernel_rfl) (by kernel_rfl) H.out U.out.n LN.out (Nat.succ_le_of_lt (gs9.1 (heldC_at H.out (mt9 mh9))).1) W0.out (mt9 mh9) rfl (Nat.lt_succ_self _) B0'.out (fun q hq => far_two FAR.out (Nat.lt_succ_of_lt hbw) (Nat.lt_succ_self _) hq) ?_
     rintro v' w3 ⟨sa3, sn3, sc3, rfl⟩ hK hO hB hZ hR hG
     simp only [putAll, Act.put, List.setIfInBounds_toArray, List.set_cons_zero, List.set_cons_succ]
     have KA1 := heldC_at H.out mh9
     have KR1 := heldC_at H.out mh9
     have hwa := (gs9.1 KA1).1
     have U := hd9 (U.out.setN hO hR (fun g hlo hg hne => hG g hg (by omega) hne) hZ)
     have KA := hd9 (show w3.heap[w.heap.size]? = some (.cells #[.int .i64 kk, .slice (some ⟨ba, off, none⟩) n ci, .slice ap parts.length cp, .slice (some ⟨bn, offn, none⟩) nn cn, .slice ac cls.length cc, .slice al levels.length cl, .int .i64 code, .int .i64 env] 31 (0, 0)) from (hG _ hwa (by omega) (fun e => by have := FAR.out _ e; omega)).trans KA1)
     have KB := hd9 (show w3.heap[b]? = some (.cells #[.int .i64 kk, .slice sa sn sc2, .slice none 0 0, .slice sa3 sn3 sc3, .slice sc nc qc, .slice sl nl ql, .int .i64 0, .int .i64 0] 31 (0, 0)) from hK)
     have BW := hd9 hB
     have KR := hd9 (show w3.heap[w.heap.size + 1]? = some (.cells #[.int .i64 0, .slice none 0 0, .slice none 0 0, .slice none 0 0, .slice none 0 0, .slice none 0 0, .int .i64 0, .int .i64 0] 31 (0, 0)) from (hG _ hKR (by omega) (fun e => by have := FAR.out _ e; omega)).trans KRW.out)
     clear hK hO hB hR hG hZ H FAR LN KA1 KR1 hwa
     go_wp2
     go_roundw
     case rel => first | exact ⟨k + 1, _, _, by omega, by go_num, BW.out, KA.out, KR.out, KB.out, by rw [NXI.out, NXN.out]; exact U.out⟩ | ((repeat apply Exists.intro); exact ⟨⟨k + 1, _, _, by omega, by go_num, BW.out, KA.out, KR.out, KB.out, by rw [NXI.out, NXN.out]; exact U.out⟩, rfl⟩)
     case measure => simp [intOf]; omega
   ·have hq := hq.symm
    subst hq
    have NXI := hd9 (by rw [XI1.out] at NXI; exact NXI.out)
    have PNk := hd9 (fun h => by have e := PNk.out h; rw [XN1.out h] at e; exact e)
    clear INk
    have IY := hd9 (by have h := l1In_any (z - 1) 0 ((n : Int) - 1); intro W; have h := h W; rw [decide_eq_false (by omega)] at h; exact h : ∀ W : World, Calls Tryz.prog 38 #[.int .i64 (z - 1), .int .i64 0, .int .i64 ((n : Int) - 1)] W fun e w' => e = .returned (.bool false) ∧ W = w')
    obtain ⟨a0, a1, a2, a3, a4, a5, a6, a7⟩ := vec8 KA.out
    go_wp2_with fail
    with_reducible refine (LE.out _).mono ?_
    rintro e wl ⟨rfl, b'⟩
    have BW := hd9 (below_then BW.out b')
    have KA := hd9 (blk_below b' KA.out)
    have KR := hd9 (blk_below b' KR.out)
    have KB := hd9 (blk_below b' KB.out)
    have U := hd9 (U.out.below b')
    clear b' a0 a1 a2 a3 a4 a5 a6 a7
    go_wp2_with fail
    with_reducible refine (IY.out _).mono ?_
    rintro e w' ⟨rfl, rfl⟩
    obtain ⟨a0, a1, a2, a3, a4, a5, a6, a7⟩ := vec8 KA.out
    have hbl := (gs9.1 KB.out).1
    have hKR := (gs9.1 KR.out).1
    have KRW := KR
    have UW := U
    by_cases h0 : nn = 0
    ·have e0 := P0.out h0 (k + 1)
     have e1 := P0.out h0 k
     have hn0 : (nn : Int) ≤ 0 := by omega
     have H0 := hd9 h0
     clear h0
     have LN := hd9 (show (pkL noI (items ++ [noI]) (idx.take k)).length ≤ 1048576 by have := LI.out k; omega)
     have FAR := hd9 (fun g hg => (U.out.i.lt g hg).1)
     have H := hd9 (show HeldC w wl ([(w.heap.size, 31, #[.int .i64 kk, .slice ai n ci, .slice ap parts.length cp, .slice an nn cn, .slice ac cls.length cc, .slice al levels.length cl, .int .i64 code, .int .i64 env]), (b, 31, #[.int .i64 kk, vi, .slice none 0 0, vn, .slice sc nc qc, .slice sl nl ql, .int .i64 0, .int .i64 0])]) from heldC_cons (heldC_cons ⟨BW.out, (fun _ h => by cases h)⟩ KB.out) KA.out)
     go_upto_region 16 with (fail)
     clear a0 a1 a2 a3 a4 a5 a6 a7
     refine run_region_seq (ops := (opsOf Tryz.f19 16)) (S := fun w' => HeldC w w' ([(w.heap.size, 31, #[.int .i64 kk, .slice ai n ci, .slice ap parts.length cp, .slice an nn cn, .slice ac cls.length cc, .slice al levels.length cl, .int .i64 code, .int .i64 env]), (b, 31, #[.int .i64 kk, vi, (.slice none 0 0), vn, .slice sc nc qc, .slice sl nl ql, .int .i64 0, .int .i64 0])])) [(0, true), (1, true), (2, true), (3, false), (4, false), (5, true), (6, false)] (by kernel_rfl) (by kernel_rfl) (by kernel_rfl) H.out ?_
     refine runC_partV (b := b) (by kernel_rfl) (show opAt (opsOf Tryz.f19 16) 0 = some (some 79, .fieldAddr 31 (.tmp 5) 1, none) from by kernel_rfl) (by kernel_rfl) (by kernel_rfl) (by kernel_rfl) ?_
     refine runC_cell (b := b) (j := 1) (v := vi) load_its (show opAt (opsOf Tryz.f19 16) 1 = some (some 80, .load 28 (.tmp 79), none) from by kernel_rfl) (by kernel_rfl) (by kernel_rfl) (by kernel_rfl) (mt9 mh9) rfl ?_
     refine bldI0Z (show opAt (opsOf Tryz.f19 16) 2 = some (some 81, .build 64 #[], none) from by kernel_rfl) (by kernel_rfl) (by kernel_rfl) ?_
     refine tail_its3 noI (show opAt (opsOf Tryz.f19 16) 3 = some (some 82, .buildSlice 28 1 #[(0, (.tmp 81))], none) from by kernel_rfl) (by kernel_rfl) (by kernel_rfl) (show opAt (opsOf Tryz.f19 16) 4 = some (some 83, .call { callee := .builtin .append, args := [(.tmp 80), (.tmp 82)].toArray, argTypes := [28, 28].toArray }, none) from by kernel_rfl) (by kernel_rfl) (fun _ => by kernel_rfl) (show opAt (opsOf Tryz.f19 16) 5 = some (some 84, .fieldAddr 31 (.tmp 5) 1, none) from by kernel_rfl) (by kernel_rfl) (by kernel_rfl) (fun _ _ => by kernel_rfl) (show opAt (opsOf Tryz.f19 16) 6 = some (none, .store 28 (.tmp 84) (.tmp 83), none) from by kernel_rfl) (by kernel_rfl) (by kernel_rfl) H.out U.out.i LN.out (Nat.succ_le_of_lt (gs9.1 (heldC_at H.out (mt9 mh9))).1) W0.out (mt9 mh9) rfl (Nat.lt_succ_self _) B0'.out (fun q hq => far_two FAR.out (Nat.lt_succ_of_lt hbw) (Nat.lt_succ_self _) hq) ?_
     rintro v' w2 ⟨sa, sn, sc2, rfl⟩ hK hO hB hZ hR hG
     simp only [putAll, Act.put, List.setIfInBounds_toArray, List.set_cons_zero, List.set_cons_succ]
     have KA1 := heldC_at H.out mh9
     have KR1 := heldC_at H.out mh9
     have hwa := (gs9.1 KA1).1
     have U := hd9 (U.out.setI hO hR (fun g hlo hg hne => hG g hg (by omega) hne) hZ)
     have KA := hd9 (show w2.heap[w.heap.size]? = some (.cells #[.int .i64 kk, .slice ai n ci, .slice ap parts.length cp, .slice an nn cn, .slice ac cls.length cc, .slice al levels.length cl, .int .i64 code, .int .i64 env] 31 (0, 0)) from (hG _ hwa (by omega) (fun e => by have := FAR.out _ e; omega)).trans KA1)
     have KB := hd9 (show w2.heap[b]? = some (.cells #[.int .i64 kk, .slice sa sn sc2, .slice none 0 0, vn, .slice sc nc qc, .slice sl nl ql, .int .i64 0, .int .i64 0] 31 (0, 0)) from hK)
     have BW := hd9 hB
     have KR := hd9 (show w2.heap[w.heap.size + 1]? = some (.cells #[.int .i64 0, .slice none 0 0, .slice none 0 0, .slice none 0 0, .slice none 0 0, .slice none 0 0, .int .i64 0, .int .i64 0] 31 (0, 0)) from (hG _ hKR (by omega) (fun e => by have := FAR.out _ e; omega)).trans KRW.out)
     clear hK hO hB hR hG hZ H FAR LN KA1 KR1 hwa
     obtain ⟨a0, a1, a2, a3, a4, a5, a6, a7⟩ := vec8 KA.out
     go_wp2
     go_roundw
     case rel => first | exact ⟨k + 1, _, vn, by omega, by go_num, BW.out, KA.out, KR.out, KB.out, by rw [NXI.out, e0]; rw [e1] at U; exact U.out⟩ | ((repeat apply Exists.intro); exact ⟨⟨k + 1, _, vn, by omega, by go_num, BW.out, KA.out, KR.out, KB.out, by rw [NXI.out, e0]; rw [e1] at U; exact U.out⟩, rfl⟩)
     case measure => simp [intOf]; omega
    ·have hn0 : 0 < (nn : Int) := by omega
     have NXN := hd9 (PNk.out h0)
     have LN := hd9 (show (pkL noI (items ++ [noI]) (idx.take k)).length ≤ 1048576 by have := LI.out k; omega)
     have FAR := hd9 (fun g hg => (U.out.i.lt g hg).1)
     have H := hd9 (show HeldC w wl ([(w.heap.size, 31, #[.int .i64 kk, .slice ai n ci, .slice ap parts.length cp, .slice an nn cn, .slice ac cls.length cc, .slice al levels.length cl, .int .i64 code, .int .i64 env]), (b, 31, #[.int .i64 kk, vi, .slice none 0 0, vn, .slice sc nc qc, .slice sl nl ql, .int .i64 0, .int .i64 0])]) from heldC_cons (heldC_cons ⟨BW.out, (fun _ h => by cases h)⟩ KB.out) KA.out)
     go_upto_region 16 with (fail)
     clear a0 a1 a2 a3 a4 a5 a6 a7
     refine run_region_seq (ops := (opsOf Tryz.f19 16)) (S := fun w' => HeldC w w' ([(w.heap.size, 31, #[.int .i64 kk, .slice ai n ci, .slice ap parts.length cp, .slice an nn cn, .slice ac cls.length cc, .slice al levels.length cl, .int .i64 code, .int .i64 env]), (b, 31, #[.int .i64 kk, vi, (.slice none 0 0), vn, .slice sc nc qc, .slice sl nl ql, .int .i64 0, .int .i64 0])])) [(0, true), (1, true), (2, true), (3, false), (4, false), (5, true), (6, false)] (by kernel_rfl) (by kernel_rfl) (by kernel_rfl) H.out ?_
     refine runC_partV (b := b) (by kernel_rfl) (show opAt (opsOf Tryz.f19 16) 0 = some (some 79, .fieldAddr 31 (.tmp 5) 1, none) from by kernel_rfl) (by kernel_rfl) (by kernel_rfl) (by kernel_rfl) ?_
     refine runC_cell (b := b) (j := 1) (v := vi) load_its (show opAt (opsOf Tryz.f19 16) 1 = some (some 80, .load 28 (.tmp 79), none) from by kernel_rfl) (by kernel_rfl) (by kernel_rfl) (by kernel_rfl) (mt9 mh9) rfl ?_
     refine bldI0Z (show opAt (opsOf Tryz.f19 16) 2 = some (some 81, .build 64 #[], none) from by kernel_rfl) (by kernel_rfl) (by kernel_rfl) ?_
     refine tail_its3 noI (show opAt (opsOf Tryz.f19 16) 3 = some (some 82, .buildSlice 28 1 #[(0, (.tmp 81))], none) from by kernel_rfl) (by kernel_rfl) (by kernel_rfl) (show opAt (opsOf Tryz.f19 16) 4 = some (some 83, .call { callee := .builtin .append, args := [(.tmp 80), (.tmp 82)].toArray, argTypes := [28, 28].toArray }, none) from by kernel_rfl) (by kernel_rfl) (fun _ => by kernel_rfl) (show opAt (opsOf Tryz.f19 16) 5 = some (some 84, .fieldAddr 31 (.tmp 5) 1, none) from by kernel_rfl) (by kernel_rfl) (by kernel_rfl) (fun _ _ => by kernel_rfl) (show opAt (opsOf Tryz.f19 16) 6 = some (none, .store 28 (.tmp 84) (.tmp 83), none) from by kernel_rfl) (by kernel_rfl) (by kernel_rfl) H.out U.out.i LN.out (Nat.succ_le_of_lt (gs9.1 (heldC_at H.out (mt9 mh9))).1) W0.out (mt9 mh9) rfl (Nat.lt_succ_self _) B0'.out (fun q hq => far_two FAR.out (Nat.lt_succ_of_lt hbw) (Nat.lt_succ_self _) hq) ?_
     rintro v' w2 ⟨sa, sn, sc2, rfl⟩ hK hO hB hZ hR hG
     simp only [putAll, Act.put, List.setIfInBounds_toArray, List.set_cons_zero, List.set_cons_succ]
     have KA1 := heldC_at H.out mh9
     have KR1 := heldC_at H.out mh9
     have hwa := (gs9.1 KA1).1
     have U := hd9 (U.out.setI hO hR (fun g hlo hg hne => hG g hg (by omega) hne) hZ)
     have KA := hd9 (show w2.heap[w.heap.size]? = some (.cells #[.int .i64 kk, .slice ai n ci, .slice ap parts.length cp, .slice an nn cn, .slice ac cls.length cc, .slice al levels.length cl, .int .i64 code, .int .i64 env] 31 (0, 0)) from (hG _ hwa (by omega) (fun e => by have := FAR.out _ e; omega)).trans KA1)
     have KB := hd9 (show w2.heap[b]? = some (.cells #[.int .i64 kk, .slice sa sn sc2, .slice none 0 0, vn, .slice sc nc qc, .slice sl nl ql, .int .i64 0, .int .i64 0] 31 (0, 0)) from hK)
     have BW := hd9 hB
     have KR := hd9 (show w2.heap[w.heap.size + 1]? = some (.cells #[.int .i64 0, .slice none 0 0, .slice none 0 0, .slice none 0 0, .slice none 0 0, .slice none 0 0, .int .i64 0, .int .i64 0] 31 (0, 0)) from (hG _ hKR (by omega) (fun e => by have := FAR.out _ e; omega)).trans KRW.out)
     clear hK hO hB hR hG hZ H FAR LN KA1 KR1 hwa
     obtain ⟨a0, a1, a2, a3, a4, a5, a6, a7⟩ := vec8 KA.out
     have hKR := (gs9.1 KR.out).1
     have KRW := KR
     have LN := hd9 (show (pkL ⟨#[]⟩ (misN names) (idx.take k)).length ≤ 1048576 by have := LM.out k; omega)
     have FAR := hd9 (fun g hg => (U.out.n.lt g hg).1)
     have H := hd9 (show HeldC w w2 ([(w.heap.size, 31, #[.int .i64 kk, .slice ai n ci, .slice ap parts.length cp, .slice an nn cn, .slice ac cls.length cc, .slice al levels.length cl, .int .i64 code, .int .i64 env]), (b, 31, #[.int .i64 kk, .slice sa sn sc2, .slice none 0 0, vn, .slice sc nc qc, .slice sl nl ql, .int .i64 0, .int .i64 0])]) from heldC_cons (heldC_cons ⟨BW.out, (fun _ h => by cases h)⟩ KB.out) KA.out)
     go_upto_region 20 with (fail)
     clear a0 a1 a2 a3 a4 a5 a6 a7
     refine run_region_seq (ops := (opsOf Tryz.f19 20)) (S := fun w' => HeldC w w' ([(w.heap.size, 31, #[.int .i64 kk, .slice ai n ci, .slice ap parts.length cp, .slice an nn cn, .slice ac cls.length cc, .slice al levels.length cl, .int .i64 code, .int .i64 env]), (b, 31, #[.int .i64 kk, (.slice sa sn sc2), (.slice none 0 0), vn, .slice sc nc qc, .slice sl nl ql, .int .i64 0, .int .i64 0])])) [(0, true), (1, true), (2, false), (3, false), (4, true), (5, false)] (by kernel_rfl) (by kernel_rfl) (by kernel_rfl) H.out ?_
     refine runC_partV (b := b) (by kernel_rfl) (show opAt (opsOf Tryz.f19 20) 0 = some (some 106, .fieldAddr 31 (.tmp 5) 3, none) from by kernel_rfl) (by kernel_rfl) (by kernel_rfl) (by kernel_rfl) ?_
     refine runC_cell (b := b) (j := 3) (v := vn) load_strs (show opAt (opsOf Tryz.f19 20) 1 = some (some 107, .load 24 (.tmp 106), none) from by kernel_rfl) (by kernel_rfl) (by kernel_rfl) (by kernel_rfl) (mt9 mh9) rfl ?_
     refine tail_txs3 naB (show opAt (opsOf Tryz.f19 20) 2 = some (some 108, .buildSlice 24 1 #[(0, (.const (.string ⟨#[60, 78, 65, 62]⟩)))], none) from by kernel_rfl) (by kernel_rfl) (by kernel_rfl) (show opAt (opsOf Tryz.f19 20) 3 = some (some 109, .call { callee := .builtin .append, args := [(.tmp 107), (.tmp 108)].toArray, argTypes := [24, 24].toArray }, none) from by kernel_rfl) (by kernel_rfl) (fun _ => by kernel_rfl) (show opAt (opsOf Tryz.f19 20) 4 = some (some 110, .fieldAddr 31 (.tmp 5) 3, none) from by kernel_rfl) (by kernel_rfl) (by kernel_rfl) (fun _ _ => by kernel_rfl) (show opAt (opsOf Tryz.f19 20) 5 = some (none, .store 24 (.tmp 110) (.tmp 109), none) from by kernel_rfl) (by kernel_rfl) (by kernel_rfl) H.out U.out.n LN.out (Nat.succ_le_of_lt (gs9.1 (heldC_at H.out (mt9 mh9))).1) W0.out (mt9 mh9) rfl (Nat.lt_succ_self _) B0'.out (fun q hq => far_two FAR.out (Nat.lt_succ_of_lt hbw) (Nat.lt_succ_self _) hq) ?_
     rintro v' w3 ⟨sa3, sn3, sc3, rfl⟩ hK hO hB hZ hR hG
     simp only [putAll, Act.put, List.setIfInBounds_toArray, List.set_cons_zero, List.set_cons_succ]
     have KA1 := heldC_at H.out mh9
     have KR1 := heldC_at H.out mh9
     have hwa := (gs9.1 KA1).1
     have U := hd9 (U.out.setN hO hR (fun g hlo hg hne => hG g hg (by omega) hne) hZ)
     have KA := hd9 (show w3.heap[w.heap.size]? = some (.cells #[.int .i64 kk, .slice ai n ci, .slice ap parts.length cp, .slice an nn cn, .slice ac cls.length cc, .slice al levels.length cl, .int .i64 code, .int .i64 env] 31 (0, 0)) from (hG _ hwa (by omega) (fun e => by have := FAR.out _ e; omega)).trans KA1)
     have KB := hd9 (show w3.heap[b]? = some (.cells #[.int .i64 kk, .slice sa sn sc2, .slice none 0 0, .slice sa3 sn3 sc3, .slice sc nc qc, .slice sl nl ql, .int .i64 0, .int .i64 0] 31 (0, 0)) from hK)
     have BW := hd9 hB
     have KR := hd9 (show w3.heap[w.heap.size + 1]? = some (.cells #[.int .i64 0, .slice none 0 0, .slice none 0 0, .slice none 0 0, .slice none 0 0, .slice none 0 0, .int .i64 0, .int .i64 0] 31 (0, 0)) from (hG _ hKR (by omega) (fun e => by have := FAR.out _ e; omega)).trans KRW.out)
     clear hK hO hB hR hG hZ H FAR LN KA1 KR1 hwa
     go_wp2
     go_roundw
     case rel => first | exact ⟨k + 1, _, _, by omega, by go_num, BW.out, KA.out, KR.out, KB.out, by rw [NXI.out, NXN.out]; exact U.out⟩ | ((repeat apply Exists.intro); exact ⟨⟨k + 1, _, _, by omega, by go_num, BW.out, KA.out, KR.out, KB.out, by rw [NXI.out, NXN.out]; exact U.out⟩, rfl⟩)
     case measure => simp [intOf]; omega
  ·obtain rfl : k = m := by omega
   obtain ⟨si, qi, rfl⟩ := row_form U.out.i
   obtain ⟨sn, qn, Fn, rfl, hot, _, hrt, _⟩ := txs_of_row U.out.n
   have CLN := hd9 (fun (W : World) (hb : Below wr.heap.size wr W) => specCleanN kk 0 0 si none sn sc sl (pkL noI (items ++ [noI]) (idx.take k)).length qi 0 0 qn nc qc nl ql (pkL ⟨#[]⟩ (misN names) (idx.take k)) (b + 1) wr.heap.size W ((hot.at_ hrt).below hb (Nat.le_refl _)) hb.size (Nat.le_trans (LM.out k) hn))
   clear hot hrt
   obtain ⟨k0, k1, k2, k3, k4, k5, k6, k7⟩ := vec8 KB.out
   have hKR := (gs9.1 KR.out).1
   go_wp2_with fail
   refine (CLN.out _ (Below.refl _ _)).mono ?_
   rintro e w5 ⟨b', hor⟩
   have BW := hd9 (below_then BW.out b')
   have KR := hd9 (blk_below b' KR.out)
   have O := hd9 ((U.out.below b').own kk)
   have hL1 : w.heap.size + 1 < b + 1 := by omega
   clear b' k0 k1 k2 k3 k4 k5 k6 k7
   obtain ⟨z0, z1, z2, z3, z4, z5, z6, z7⟩ := vec8 KR.out
   obtain ⟨f0, f1, f2, f3, f4, f5, f6, f7⟩ := free8 KR.out
   rcases hor with ⟨hex, rfl⟩ | ⟨hem, g, hg, rfl⟩
   ·have EN := hd9 (clnN_yes (l := pkL ⟨#[]⟩ (misN names) (idx.take k)) (by obtain ⟨i, h1, h2⟩ := hex; exact ⟨i, h1, fun h => h2 (empty_of_size h)⟩))
    rw [EN.out] at EV
    rw [← EV.out] at O
    clear EV EN hex
    go_wp2
    exact vec_end rfl rfl rfl KR.out ⟨_, rfl, (O.out.put8 hL1 _ _ _ _ _ _ _ _).wide (by omega) (by rw [put8_size]; exact Nat.le_refl _), put8_below BW.out (Nat.le_succ _)⟩
   ·have EN := hd9 (clnN_no (l := pkL ⟨#[]⟩ (misN names) (idx.take k)) (fun ⟨i, h1, h2⟩ => h2 (show (txtS _ i).size = 0 by rw [hem i h1]; rfl)))
    rw [EN.out] at EV
    have O := hd9 (O.out.noNames (some ⟨g, 0, none⟩) 0)
    rw [← EV.out] at O
    clear EV EN hem hg
    go_wp2
    exact vec_end rfl rfl rfl KR.out ⟨_, rfl, (O.out.put8 hL1 _ _ _ _ _ _ _ _).wide (by omega) (by rw [put8_size]; exact Nat.le_refl _), put8_below BW.out (Nat.le_succ _)⟩
end Go.Proofs.YteoalkjngkcheaaGreat

/- ElementOf: the program, as a whole. -/
namespace Go.Proofs.YteoalkjngkcheaaGreat
open Go.RowKit
set_option maxRecDepth 100000
set_option linter.unusedVariables false

theorem IntZ.blk {w0 w : World} {l : List Int} {g n c : Nat} (h : IntZ w0 w l (.slice (some ⟨g, 0, none⟩) n c)) (h0 : 0 < l.length) : ∃ C, w.heap[g]? = some (.cells C 3 (0, 0)) ∧ C[0]? = some (.int .i64 (l.getD 0 0)) := by
 obtain ⟨e, h1⟩ := (h.cell h0)
 obtain ⟨_, q⟩ := h.row
 rcases q with ⟨q, _⟩ | ⟨b, c', C, hs, _, hb, _⟩
 ·cases q
 ·cases hs
  refine ⟨C, hb, ?_⟩
  have e2 : (match w.heap[g]? with | some (.cells c _ _) => c[0]? | _ => none) = some (.int .i64 (l.getD 0 0)) := e
  rw [hb] at e2
  exact e2
end Go.Proofs.YteoalkjngkcheaaGreat

/- Number subscripts of the reference. -/
namespace Go.Proofs.YteoalkjngkcheaaGreat
open Go.RowKit
set_option maxRecDepth 100000
set_option linter.unusedVariables false

theorem negK_succ {l : List It} {k : Nat} : NegK l (k + 1) ↔ (NegK l k ∨ (l.getD k noI).n < 0) := by
 constructor
 ·rintro ⟨i, h1, h2⟩
  by_cases e : i = k
  ·subst e; exact .inr h2
  ·exact .inl ⟨i, by omega, h2⟩
 ·rintro (⟨i, h1, h2⟩ | h)
  ·exact ⟨i, by omega, h2⟩
  ·exact ⟨k, by omega, h⟩
theorem posK_succ {l : List It} {k : Nat} : PosK l (k + 1) ↔ (PosK l k ∨ (0 < (l.getD k noI).n ∨ (l.getD k noI).d = 0)) := by
 constructor
 ·rintro ⟨i, h1, h2⟩
  by_cases e : i = k
  ·subst e; exact .inr h2
  ·exact .inl ⟨i, by omega, h2⟩
 ·rintro (⟨i, h1, h2⟩ | h)
  ·exact ⟨i, by omega, h2⟩
  ·exact ⟨k, by omega, h⟩
/-- Does b say that P holds? (A structure, so that the walk leaves it as it is.) -/
structure IsB (b : Bool) (P : Prop) : Prop where
 out : b = true ↔ P
theorem negB_zero (l : List It) : IsB false (NegK l 0) := ⟨⟨(fun h => by cases h), fun ⟨i, h, _⟩ => absurd h (Nat.not_lt_zero _)⟩⟩
theorem posB_zero (l : List It) : IsB false (PosK l 0) := ⟨⟨(fun h => by cases h), fun ⟨i, h, _⟩ => absurd h (Nat.not_lt_zero _)⟩⟩
theorem negB_yes {l : List It} {k : Nat} (hx : (l.getD k noI).n < 0) : IsB true (NegK l (k + 1)) := ⟨⟨fun _ => negK_succ.2 (.inr hx), fun _ => rfl⟩⟩
theorem negB_no {l : List It} {k : Nat} {b : Bool} (h : IsB b (NegK l k)) (hx : ¬ (l.getD k noI).n < 0) : IsB b (NegK l (k + 1)) := ⟨⟨fun e => negK_succ.2 (.inl (h.out.1 e)), fun e => (negK_succ.1 e).elim h.out.2 (fun q => absurd q hx)⟩⟩
theorem posB_yes {l : List It} {k : Nat} (hx : 0 < (l.getD k noI).n ∨ (l.getD k noI).d = 0) : IsB true (PosK l (k + 1)) := ⟨⟨fun _ => posK_succ.2 (.inr hx), fun _ => rfl⟩⟩
theorem posB_no {l : List It} {k : Nat} {b : Bool} (h : IsB b (PosK l k)) (hx : ¬ (0 < (l.getD k noI).n ∨ (l.getD k noI).d = 0)) : IsB b (PosK l (k + 1)) := ⟨⟨fun e => posK_succ.2 (.inl (h.out.1 e)), fun e => (posK_succ.1 e).elim h.out.2 (fun q => absurd q hx)⟩⟩
set_option maxHeartbeats 8000000 in
theorem specNumbers (l : List It) (a : Option Addr) (c lo hi n : Nat) (w : World) (hI : ItemsAt lo hi w a l) (hhi : hi ≤ w.heap.size) (hl : l.length ≤ 1048576) (hn : n ≤ 40) (hnum : ∀ i, i < l.length → NumIt (l.getD i noI)) :
  Calls Tryz.prog 39 #[.int .i64 (n : Int), .slice a l.length c] w (ResZ (nuZ l n) (nuS l) w) := by
 have AI := hd9 (fun (k : Nat) (W : World) (hk : k < l.length) (hb : Below w.heap.size w W) => (hI.below hb hhi).at_ hk)
 have XF := hd9 (nmE_frac l)
 have XU := hd9 (nmE_out l)
 have YS := hd9 (fun k h => nmC_yes (l := l) (k := k) h)
 have NS := hd9 (fun k h => nmC_no (l := l) (k := k) h)
 have LE := hd9 (nmC_len l)
 have ZDA := hd9 (show ∀ k, k < l.length → (l.getD k noI).d = 0 → ¬ (l.getD k noI).n ≠ 0 from fun k hk h0 => by
  have h := (hnum k hk).z h0
  rw [h]; exact fun e => e rfl)
 have AL := hd9 (show AllNeg (nmC l l.length) ↔ ¬ PosK l l.length from all_iff (fun i hi h0 => by have h := (hnum i hi).z h0; rw [h]; rfl))
 have NI := hd9 (show NegIn (nmC l l.length) ↔ NegK l l.length from neg_iff)
 have BAD := hd9 (fun h => nu_bad (l := l) n h)
 have GOOD := hd9 (fun h => nu_ok (l := l) n (nmE_ok l h))
 have PL := hd9 (fun h => nm_plain (c := nmC l l.length) n h)
 have MX := hd9 (fun h h2 => nm_mixed (c := nmC l l.length) n h h2)
 have MI := hd9 (fun h h2 => nm_minus (c := nmC l l.length) n h h2)
 obtain ⟨m, hm⟩ : ∃ m, l.length = m := ⟨_, rfl⟩
 rw [hm] at AI XF XU ZDA AL NI GOOD PL MX MI hl ⊢
 obtain ⟨RZ, hRZ⟩ : ∃ R, nuZ l n = R := ⟨_, rfl⟩
 obtain ⟨RS, hRS⟩ : ∃ R, nuS l = R := ⟨_, rfl⟩
 rw [hRZ, hRS] at BAD GOOD
 rw [hRZ, hRS]
 clear hI hhi hnum hm hRZ hRS
 obtain ⟨w1, hw1⟩ : ∃ W, w.alloc (.cells #[] 3) = W := ⟨_, rfl⟩
 have ST := hd9 (show IntZ w w1 (nmC l 0) (.slice (some ⟨w.heap.size, 0, none⟩) 0 0) from hw1 ▸ IntZ.nil0 w w (Below.refl _ _))
 have EW := hd9 hw1
 clear hw1
 go_enter Tryz.func39, Tryz.ntmps39
 go_upto_region 5 with (fail)
 rw [EW.out]
 clear EW
 go_loopw [6, 7, 8, 9] (fun v6 v7 v8 v9 wr => ∃ (k : Nat) (b1 b2 : Bool), k ≤ m ∧ v9 = .int .i64 k ∧ IntZ w wr (nmC l k) v6 ∧ v7 = .bool b1 ∧ v8 = .bool b2 ∧ IsB b1 (NegK l k) ∧ IsB b2 (PosK l k) ∧ ∀ j, j < k → OkN (l.getD j noI)) (fun _ _ _ v9 _ => m - (intOf v9).toNat)
 case atStart => exact ⟨0, false, false, Nat.zero_le _, rfl, ST.out, rfl, rfl, negB_zero l, posB_zero l, fun _ h => absurd h (Nat.not_lt_zero _)⟩
 case round =>
  obtain ⟨k, b1, b2, hk, rfl, hir, rfl, rfl, hm1, hm2, hok⟩ := hrel
  have IR := hd9 hir
  have M1 := hd9 hm1
  have M2 := hd9 hm2
  have OK := hd9 hok
  clear hir hm1 hm2 hok
  by_cases hlt : k < m
  ·obtain ⟨ba, off, rfl, hbB, c0, c1, c2'⟩ := AI.out k wr hlt IR.out.below
   have c2 : wr.cell? ⟨ba, off + k * 3 + 2, none⟩ = some (.string (l.getD k noI).t) := c2'
   have LN := hd9 (show (nmC l k).length ≤ 1048576 by have := LE.out k; omega)
   have XF1 := hd9 (show 1 < (l.getD k noI).d → nmE l = invB from fun h => XF.out k hlt OK.out h)
   have XU1 := hd9 (show ¬ 1 < (l.getD k noI).d → ((l.getD k noI).n < -40 ∨ 40 < (l.getD k noI).n) → nmE l = oobB from fun h g => XU.out k hlt OK.out (by omega) g)
   have Y1 := hd9 (YS.out k)
   have Z1 := hd9 (NS.out k)
   have ZD := hd9 (ZDA.out k hlt)
   have OKX := hd9 (show OkN (l.getD k noI) → ∀ j, j < k + 1 → OkN (l.getD j noI) from fun h j hj => by
    by_cases e : j = k
    ·subst e; exact h
    ·exact OK.out j (by omega))
   obtain ⟨x, hx⟩ : ∃ x, l.getD k noI = x := ⟨_, rfl⟩
   have EX := hd9 hx
   rw [hx] at c0 c1 c2 XF1 XU1 Y1 Z1 ZD OKX
   clear hx c2'
   obtain ⟨wa, hwa⟩ : ∃ W, wr.alloc (.cells #[.int .i64 x.n, .int .i64 x.d, .string x.t] 64) = W := ⟨_, rfl⟩
   have BA := hd9 (show Below wr.heap.size wr wa from hwa ▸ below1 wr _)
   have KB := hd9 (show wa.heap[wr.heap.size]? = some (.cells #[.int .i64 x.n, .int .i64 x.d, .string x.t] 64 (0, 0)) from hwa ▸ blk_new wr _ rfl)
   have IR := hd9 (IR.out.keep BA.out)
   have BN := hd9 IR.out.below
   have EW := hd9 hwa
   clear hwa
   go_upto_region 8 with (fail)
   rw [EW.out]
   clear EW c0 c1 c2
   have k0 := cellOf KB.out (i := 0) rfl
   have k1 := cellOf KB.out (i := 1) rfl
   have k2 := cellOf KB.out (i := 2) rfl
   by_cases h1 : 1 < x.d
   ·have E := XF1.out h1
    obtain ⟨e1, e2⟩ := BAD.out (by rw [E]; decide)
    have X1 := hd9 e1
    have X2 := hd9 (e2.trans E)
    clear e1 e2 E XF1 XU1 Y1 Z1 ZD OKX EX M1 M2
    go_wp2
    go_ret2
    rw [X2.out, X1.out]
    exact ⟨_, rfl, IntZ.nil0 w _ BN.out⟩
   ·by_cases h2 : -40 ≤ x.n ∧ x.n ≤ 40
    ·have CL := hd9 (fun W => by have h := l1In_any x.n (-40) 40 W; rw [decide_eq_true h2] at h; exact h)
     obtain ⟨h2a, h2b⟩ := h2
     have OKN := hd9 (OKX.out ⟨by omega, h2a, h2b⟩)
     clear XF1 XU1 OKX BN
     go_wp2_with fail
     refine (CL.out _).mono ?_
     rintro e wq ⟨rfl, rfl⟩
     rcases (show x.n < 0 ∨ (¬ x.n < 0 ∧ 0 < x.n) ∨ (x.n = 0 ∧ x.d = 0) ∨ (x.n = 0 ∧ ¬ x.d = 0) by omega) with h3 | ⟨h3, h4⟩ | ⟨h3, h4⟩ | ⟨h3, h4⟩
     ·have h4 : ¬ 0 < x.n := by omega
      have h4d : decide (0 < x.n) = false := decide_eq_false h4
      have h3d : decide (x.n < 0) = true := decide_eq_true h3
      have h5 : ¬ x.n = 0 := by omega
      have h5b : (x.n != 0) = true := bne_iff_ne.2 h5
      have hd0 : ¬ x.d = 0 := fun e => ZD.out e (by omega)
      have hd0b : (x.d == 0) = false := beq_eq_false_iff_ne.2 hd0
      cases b1 <;> cases b2
      ·have N1 := hd9 (negB_yes (l := l) (k := k) (by rw [EX.out]; exact h3))
       have N2 := hd9 (posB_no M2.out (by rw [EX.out]; omega))
       have NX := hd9 (Y1.out (by omega))
       clear Y1 Z1 EX
       go_wp2_with (at_builtin; go_loud (refine wpList_appInt rfl _ _ rfl x.n (nmC l k) _ _ rfl rfl (IR.out.keep (below1 _ _)) (blk_new _ _ rfl) LN.out ?_))
       intro v' w3 hir
       have IN := hd9 (NX.out ▸ hir)
       clear hir
       go_wp2
       go_roundw
       case rel => exact ⟨k + 1, true, false, by omega, by go_num, IN.out, rfl, rfl, N1.out, N2.out, OKN.out⟩
       case measure => simp [intOf]; omega
      ·have N1 := hd9 (negB_yes (l := l) (k := k) (by rw [EX.out]; exact h3))
       have N2 := hd9 (posB_no M2.out (by rw [EX.out]; omega))
       have NX := hd9 (Y1.out (by omega))
       clear Y1 Z1 EX
       go_wp2_with (at_builtin; go_loud (refine wpList_appInt rfl _ _ rfl x.n (nmC l k) _ _ rfl rfl (IR.out.keep (below1 _ _)) (blk_new _ _ rfl) LN.out ?_))
       intro v' w3 hir
       have IN := hd9 (NX.out ▸ hir)
       clear hir
       go_wp2
       go_roundw
       case rel => exact ⟨k + 1, true, true, by omega, by go_num, IN.out, rfl, rfl, N1.out, N2.out, OKN.out⟩
       case measure => simp [intOf]; omega
      ·have N1 := hd9 (negB_yes (l := l) (k := k) (by rw [EX.out]; exact h3))
       have N2 := hd9 (posB_no M2.out (by rw [EX.out]; omega))
       have NX := hd9 (Y1.out (by omega))
       clear Y1 Z1 EX
       go_wp2_with (at_builtin; go_loud (refine wpList_appInt rfl _ _ rfl x.n (nmC l k) _ _ rfl rfl (IR.out.keep (below1 _ _)) (blk_new _ _ rfl) LN.out ?_))
       intro v' w3 hir
       have IN := hd9 (NX.out ▸ hir)
       clear hir
       go_wp2
       go_roundw
       case rel => exact ⟨k + 1, true, false, by omega, by go_num, IN.out, rfl, rfl, N1.out, N2.out, OKN.out⟩
       case measure => simp [intOf]; omega
      ·have N1 := hd9 (negB_yes (l := l) (k := k) (by rw [EX.out]; exact h3))
       have N2 := hd9 (posB_no M2.out (by rw [EX.out]; omega))
       have NX := hd9 (Y1.out (by omega))
       clear Y1 Z1 EX
       go_wp2_with (at_builtin; go_loud (refine wpList_appInt rfl _ _ rfl x.n (nmC l k) _ _ rfl rfl (IR.out.keep (below1 _ _)) (blk_new _ _ rfl) LN.out ?_))
       intro v' w3 hir
       have IN := hd9 (NX.out ▸ hir)
       clear hir
       go_wp2
       go_roundw
       case rel => exact ⟨k + 1, true, true, by omega, by go_num, IN.out, rfl, rfl, N1.out, N2.out, OKN.out⟩
       case measure => simp [intOf]; omega
     ·have hc : 0 < x.n ∨ x.d = 0 := .inl h4
      have h4d : decide (0 < x.n) = true := decide_eq_true h4
      have h3d : decide (x.n < 0) = false := decide_eq_false h3
      have h5 : ¬ x.n = 0 := by omega
      have h5b : (x.n != 0) = true := bne_iff_ne.2 h5
      cases b1 <;> cases b2
      ·have N1 := hd9 (negB_no M1.out (by rw [EX.out]; omega))
       have N2 := hd9 (posB_yes (l := l) (k := k) (by rw [EX.out]; exact hc))
       have NX := hd9 (Y1.out (by omega))
       clear Y1 Z1 EX
       go_wp2_with (at_builtin; go_loud (refine wpList_appInt rfl _ _ rfl x.n (nmC l k) _ _ rfl rfl (IR.out.keep (below1 _ _)) (blk_new _ _ rfl) LN.out ?_))
       intro v' w3 hir
       have IN := hd9 (NX.out ▸ hir)
       clear hir
       go_wp2
       go_roundw
       case rel => exact ⟨k + 1, false, true, by omega, by go_num, IN.out, rfl, rfl, N1.out, N2.out, OKN.out⟩
       case measure => simp [intOf]; omega
      ·have N1 := hd9 (negB_no M1.out (by rw [EX.out]; omega))
       have N2 := hd9 (posB_yes (l := l) (k := k) (by rw [EX.out]; exact hc))
       have NX := hd9 (Y1.out (by omega))
       clear Y1 Z1 EX
       go_wp2_with (at_builtin; go_loud (refine wpList_appInt rfl _ _ rfl x.n (nmC l k) _ _ rfl rfl (IR.out.keep (below1 _ _)) (blk_new _ _ rfl) LN.out ?_))
       intro v' w3 hir
       have IN := hd9 (NX.out ▸ hir)
       clear hir
       go_wp2
       go_roundw
       case rel => exact ⟨k + 1, false, true, by omega, by go_num, IN.out, rfl, rfl, N1.out, N2.out, OKN.out⟩
       case measure => simp [intOf]; omega
      ·have N1 := hd9 (negB_no M1.out (by rw [EX.out]; omega))
       have N2 := hd9 (posB_yes (l := l) (k := k) (by rw [EX.out]; exact hc))
       have NX := hd9 (Y1.out (by omega))
       clear Y1 Z1 EX
       go_wp2_with (at_builtin; go_loud (refine wpList_appInt rfl _ _ rfl x.n (nmC l k) _ _ rfl rfl (IR.out.keep (below1 _ _)) (blk_new _ _ rfl) LN.out ?_))
       intro v' w3 hir
       have IN := hd9 (NX.out ▸ hir)
       clear hir
       go_wp2
       go_roundw
       case rel => exact ⟨k + 1, true, true, by omega, by go_num, IN.out, rfl, rfl, N1.out, N2.out, OKN.out⟩
       case measure => simp [intOf]; omega
      ·have N1 := hd9 (negB_no M1.out (by rw [EX.out]; omega))
       have N2 := hd9 (posB_yes (l := l) (k := k) (by rw [EX.out]; exact hc))
       have NX := hd9 (Y1.out (by omega))
       clear Y1 Z1 EX
       go_wp2_with (at_builtin; go_loud (refine wpList_appInt rfl _ _ rfl x.n (nmC l k) _ _ rfl rfl (IR.out.keep (below1 _ _)) (blk_new _ _ rfl) LN.out ?_))
       intro v' w3 hir
       have IN := hd9 (NX.out ▸ hir)
       clear hir
       go_wp2
       go_roundw
       case rel => exact ⟨k + 1, true, true, by omega, by go_num, IN.out, rfl, rfl, N1.out, N2.out, OKN.out⟩
       case measure => simp [intOf]; omega
     ·have hc : 0 < x.n ∨ x.d = 0 := .inr h4
      have hn0 : ¬ x.n < 0 := by omega
      have hn1 : ¬ 0 < x.n := by omega
      have h4d : decide (0 < x.n) = false := decide_eq_false hn1
      have h3d : decide (x.n < 0) = false := decide_eq_false hn0
      cases b1 <;> cases b2
      ·have N1 := hd9 (negB_no M1.out (by rw [EX.out]; omega))
       have N2 := hd9 (posB_yes (l := l) (k := k) (by rw [EX.out]; exact hc))
       have NX := hd9 (show nmC l (k + 1) = nmC l k ++ [0] from (Y1.out (by omega)).trans (by rw [h3]))
       clear Y1 Z1 EX
       go_wp2_with (at_builtin; go_loud (refine wpList_appInt rfl _ _ rfl 0 (nmC l k) _ _ rfl rfl (IR.out.keep (below1 _ _)) (blk_new _ _ rfl) LN.out ?_))
       intro v' w3 hir
       have IN := hd9 (NX.out ▸ hir)
       clear hir
       go_wp2
       go_roundw
       case rel => exact ⟨k + 1, false, true, by omega, by go_num, IN.out, rfl, rfl, N1.out, N2.out, OKN.out⟩
       case measure => simp [intOf]; omega
      ·have N1 := hd9 (negB_no M1.out (by rw [EX.out]; omega))
       have N2 := hd9 (posB_yes (l := l) (k := k) (by rw [EX.out]; exact hc))
       have NX := hd9 (show nmC l (k + 1) = nmC l k ++ [0] from (Y1.out (by omega)).trans (by rw [h3]))
       clear Y1 Z1 EX
       go_wp2_with (at_builtin; go_loud (refine wpList_appInt rfl _ _ rfl 0 (nmC l k) _ _ rfl rfl (IR.out.keep (below1 _ _)) (blk_new _ _ rfl) LN.out ?_))
       intro v' w3 hir
       have IN := hd9 (NX.out ▸ hir)
       clear hir
       go_wp2
       go_roundw
       case rel => exact ⟨k + 1, false, true, by omega, by go_num, IN.out, rfl, rfl, N1.out, N2.out, OKN.out⟩
       case measure => simp [intOf]; omega
      ·have N1 := hd9 (negB_no M1.out (by rw [EX.out]; omega))
       have N2 := hd9 (posB_yes (l := l) (k := k) (by rw [EX.out]; exact hc))
       have NX := hd9 (show nmC l (k + 1) = nmC l k ++ [0] from (Y1.out (by omega)).trans (by rw [h3]))
       clear Y1 Z1 EX
       go_wp2_with (at_builtin; go_loud (refine wpList_appInt rfl _ _ rfl 0 (nmC l k) _ _ rfl rfl (IR.out.keep (below1 _ _)) (blk_new _ _ rfl) LN.out ?_))
       intro v' w3 hir
       have IN := hd9 (NX.out ▸ hir)
       clear hir
       go_wp2
       go_roundw
       case rel => exact ⟨k + 1, true, true, by omega, by go_num, IN.out, rfl, rfl, N1.out, N2.out, OKN.out⟩
       case measure => simp [intOf]; omega
      ·have N1 := hd9 (negB_no M1.out (by rw [EX.out]; omega))
       have N2 := hd9 (posB_yes (l := l) (k := k) (by rw [EX.out]; exact hc))
       have NX := hd9 (show nmC l (k + 1) = nmC l k ++ [0] from (Y1.out (by omega)).trans (by rw [h3]))
       clear Y1 Z1 EX
       go_wp2_with (at_builtin; go_loud (refine wpList_appInt rfl _ _ rfl 0 (nmC l k) _ _ rfl rfl (IR.out.keep (below1 _ _)) (blk_new _ _ rfl) LN.out ?_))
       intro v' w3 hir
       have IN := hd9 (NX.out ▸ hir)
       clear hir
       go_wp2
       go_roundw
       case rel => exact ⟨k + 1, true, true, by omega, by go_num, IN.out, rfl, rfl, N1.out, N2.out, OKN.out⟩
       case measure => simp [intOf]; omega
     ·have hn0 : ¬ x.n < 0 := by omega
      have hn1 : ¬ 0 < x.n := by omega
      have h4d : decide (0 < x.n) = false := decide_eq_false hn1
      have h3d : decide (x.n < 0) = false := decide_eq_false hn0
      have hd0b : (x.d == 0) = false := beq_eq_false_iff_ne.2 h4
      cases b1 <;> cases b2
      ·have N1 := hd9 (negB_no M1.out (by rw [EX.out]; omega))
       have N2 := hd9 (posB_no M2.out (by rw [EX.out]; omega))
       have NX := hd9 (Z1.out (by omega))
       have IN := hd9 (NX.out ▸ IR.out)
       clear Y1 Z1 EX
       go_wp2
       go_roundw
       case rel => exact ⟨k + 1, false, false, by omega, by go_num, IN.out, rfl, rfl, N1.out, N2.out, OKN.out⟩
       case measure => simp [intOf]; omega
      ·have N1 := hd9 (negB_no M1.out (by rw [EX.out]; omega))
       have N2 := hd9 (posB_no M2.out (by rw [EX.out]; omega))
       have NX := hd9 (Z1.out (by omega))
       have IN := hd9 (NX.out ▸ IR.out)
       clear Y1 Z1 EX
       go_wp2
       go_roundw
       case rel => exact ⟨k + 1, false, true, by omega, by go_num, IN.out, rfl, rfl, N1.out, N2.out, OKN.out⟩
       case measure => simp [intOf]; omega
      ·have N1 := hd9 (negB_no M1.out (by rw [EX.out]; omega))
       have N2 := hd9 (posB_no M2.out (by rw [EX.out]; omega))
       have NX := hd9 (Z1.out (by omega))
       have IN := hd9 (NX.out ▸ IR.out)
       clear Y1 Z1 EX
       go_wp2
       go_roundw
       case rel => exact ⟨k + 1, true, false, by omega, by go_num, IN.out, rfl, rfl, N1.out, N2.out, OKN.out⟩
       case measure => simp [intOf]; omega
      ·have N1 := hd9 (negB_no M1.out (by rw [EX.out]; omega))
       have N2 := hd9 (posB_no M2.out (by rw [EX.out]; omega))
       have NX := hd9 (Z1.out (by omega))
       have IN := hd9 (NX.out ▸ IR.out)
       clear Y1 Z1 EX
       go_wp2
       go_roundw
       case rel => exact ⟨k + 1, true, true, by omega, by go_num, IN.out, rfl, rfl, N1.out, N2.out, OKN.out⟩
       case measure => simp [intOf]; omega
    ·have CL := hd9 (fun W => by have h := l1In_any x.n (-40) 40 W; rw [decide_eq_false h2] at h; exact h)
     have E := XU1.out h1 (by omega)
     obtain ⟨e1, e2⟩ := BAD.out (by rw [E]; decide)
     have X1 := hd9 e1
     have X2 := hd9 (e2.trans E)
     clear e1 e2 E XF1 XU1 Y1 Z1 ZD OKX EX M1 M2 h2
     go_wp2_with fail
     refine (CL.out _).mono ?_
     rintro e wq ⟨rfl, rfl⟩
     go_wp2
     go_ret2
     rw [X2.out, X1.out]
     exact ⟨_, rfl, IntZ.nil0 w _ BN.out⟩
  ·obtain rfl : k = m := by omega
   obtain ⟨g1, g2⟩ := GOOD.out OK.out
   have G1 := hd9 g1
   have G2 := hd9 g2
   have A1 := hd9 (show AllNeg (nmC l k) ↔ ¬ b2 = true from AL.out.trans (not_congr M2.out.out.symm))
   have I1 := hd9 (show NegIn (nmC l k) ↔ b1 = true from NI.out.trans M1.out.out.symm)
   obtain ⟨C, hC⟩ : ∃ C, nmC l k = C := ⟨_, rfl⟩
   rw [hC] at A1 I1 IR PL MX MI G1 G2
   have CLN := hd9 (show C.length ≤ k by rw [← hC]; exact LE.out k)
   clear hC g1 g2 XF XU YS NS LE ZDA AL NI BAD GOOD M1 M2 OK
   cases b1 with
   | false =>
    obtain ⟨p1, p2⟩ := PL.out (fun h => by have := I1.out.1 h; cases this)
    have X1 := hd9 (G1.out.trans p1)
    have X2 := hd9 (G2.out.trans p2)
    clear p1 p2 PL MX MI A1 I1 G1 G2
    go_wp2
    go_ret2
    exact ⟨_, by rw [X2.out]; rfl, by rw [X1.out]; exact IR.out⟩
   | true =>
    have HN := hd9 (I1.out.2 rfl)
    cases b2 with
    | true =>
     obtain ⟨p1, p2⟩ := MX.out HN.out (fun h => A1.out.1 h rfl)
     have X1 := hd9 (G1.out.trans p1)
     have X2 := hd9 (G2.out.trans p2)
     have BZ := hd9 IR.out.below
     clear p1 p2 PL MX MI A1 I1 G1 G2 HN
     go_wp2
     go_ret2
     rw [X2.out, X1.out]
     exact ⟨_, rfl, IntZ.nil0 w _ BZ.out⟩
    | false =>
     obtain ⟨p1, p2⟩ := MI.out HN.out (A1.out.2 (fun h => by cases h))
     have X1 := hd9 (G1.out.trans p1)
     have X2 := hd9 (G2.out.trans p2)
     clear p1 p2 PL MX MI A1 I1 G1 G2 HN
     obtain ⟨sa, cc, rfl, hi'⟩ := IR.out.ints
     have SA := hd9 hi'
     have BW := hd9 IR.out.below
     have XY := hd9 (fun j h => exZ_yes (c := C) (k := j) h)
     have XN := hd9 (fun j h => exZ_no (c := C) (k := j) h)
     have XL := hd9 (exZ_len C)
     have XD := hd9 (show ∀ j, exP C j = true ↔ ∀ q, q < C.length → C.getD q 0 ≠ -((j : Int) + 1) from fun j => by
      unfold exP
      by_cases h : HasZ C (-((j : Int) + 1))
      ·rw [bB_yes h]
       obtain ⟨q, h1, h2⟩ := h
       exact ⟨(fun e => by cases e), fun e => absurd h2 (e q h1)⟩
      ·rw [bB_no h]
       exact ⟨fun _ q h1 h2 => h ⟨q, h1, h2⟩, fun _ => rfl⟩)
     obtain ⟨w6, hw6⟩ : ∃ W, wr.alloc (.cells #[] 3) = W := ⟨_, rfl⟩
     have SR := hd9 (show IntZ wr w6 (exZ C 0) (.slice (some ⟨wr.heap.size, 0, none⟩) 0 0) from hw6 ▸ IntZ.nil0 wr wr (Below.refl _ _))
     have EW := hd9 hw6
     obtain ⟨cl, hcl⟩ : ∃ x, C.length = x := ⟨_, rfl⟩
     rw [hcl] at SA XD CLN ⊢
     have hclk := CLN.out
     clear hw6 hi' IR hcl
     go_upto_region 22 with (fail)
     rw [EW.out]
     clear EW
     go_loopw [11, 12] (fun v11 v12 ww => ∃ j : Nat, j ≤ n ∧ v12 = .int .i64 ((j : Int) + 1) ∧ IntZ wr ww (exZ C j) v11) (fun _ v12 _ => n + 1 - (intOf v12).toNat)
     case atStart => exact ⟨0, Nat.zero_le _, rfl, SR.out⟩
     case round =>
      obtain ⟨j, hj, rfl, hjr⟩ := hrel
      have JR := hd9 hjr
      clear hjr
      by_cases hjl : j < n
      ·have LN2 := hd9 (show (exZ C j).length ≤ 1048576 by have := XL.out j; omega)
       have XDj := hd9 (XD.out j)
       have XYj := hd9 (XY.out j)
       have XNj := hd9 (XN.out j)
       have hjn : (j : Int) + 1 ≤ (n : Int) := by omega
       go_wp2
       go_loop [13, 14] (fun v13 v14 => ∃ (q : Nat) (b : Bool), q ≤ cl ∧ v14 = .int .i64 q ∧ v13 = .bool b ∧ IsB b (∀ p, p < q → C.getD p 0 ≠ -((j : Int) + 1))) (fun _ v14 => cl - (intOf v14).toNat)
       case atStart => exact ⟨0, true, Nat.zero_le _, rfl, rfl, ⟨⟨fun _ _ h => absurd h (Nat.not_lt_zero _), fun _ => rfl⟩⟩⟩
       case round =>
        obtain ⟨q, b, hq, rfl, rfl, hb⟩ := hrel
        have HB := hd9 hb
        clear hb
        by_cases hql : q < cl
        ·obtain ⟨bb, oo, rfl, hbb, hcc⟩ := (SA.out.below JR.out.below) q hql
         change _ = some (Value.int .i64 (C.getD q 0)) at hcc
         obtain ⟨z, hz⟩ : ∃ z, C.getD q 0 = z := ⟨_, rfl⟩
         have EZ := hd9 hz
         rw [hz] at hcc
         clear hz
         cases b with
         | false =>
          have HN := hd9 (show IsB false (∀ p, p < q + 1 → C.getD p 0 ≠ -((j : Int) + 1)) from ⟨⟨(fun h => by cases h), fun h => HB.out.out.2 (fun p hp => h p (by omega))⟩⟩)
          go_wp2
          go_round
          case rel => exact ⟨q + 1, false, by omega, by go_num, rfl, HN.out⟩
          case measure => simp [intOf]; omega
         | true =>
          by_cases hz : z = -((j : Int) + 1)
          ·have HN := hd9 (show IsB false (∀ p, p < q + 1 → C.getD p 0 ≠ -((j : Int) + 1)) from ⟨⟨(fun h => by cases h), fun h => absurd (EZ.out.trans hz) (h q (by omega))⟩⟩)
           subst hz
           have hzb : (-((j : Int) + 1) != -((j : Int) + 1)) = false := by simp
           go_wp2
           go_round
           case rel => exact ⟨q + 1, false, by omega, by go_num, rfl, HN.out⟩
           case measure => simp [intOf]; omega
          ·have HN := hd9 (show IsB true (∀ p, p < q + 1 → C.getD p 0 ≠ -((j : Int) + 1)) from ⟨⟨fun _ p hp => by
            by_cases e : p = q
            ·subst e; rw [EZ.out]; exact hz
            ·exact HB.out.out.1 rfl p (by omega), fun _ => rfl⟩⟩)
           have hzb : (z != -((j : Int) + 1)) = true := bne_iff_ne.2 hz
           go_wp2
           go_round
           case rel => exact ⟨q + 1, true, by omega, by go_num, rfl, HN.out⟩
           case measure => simp [intOf]; omega
        ·obtain rfl : q = cl := by omega
         cases b with
         | true =>
          have NX := hd9 (XYj.out (XDj.out.2 (HB.out.out.1 rfl)))
          clear HB XDj XYj XNj
          go_wp2_with (at_builtin; go_loud (refine wpList_appInt rfl _ _ rfl ((j : Int) + 1) (exZ C j) _ _ rfl rfl (JR.out.keep (below1 _ _)) (blk_new _ _ rfl) LN2.out ?_))
          intro v' w3 hir
          have IN := hd9 (NX.out ▸ hir)
          clear hir
          go_wp2
          go_roundw
          case rel => exact ⟨j + 1, by omega, by go_num, IN.out⟩
          case measure => simp [intOf]; omega
         | false =>
          have NX := hd9 (XNj.out (by
           cases h : exP C j with
           | false => rfl
           | true => exact absurd (HB.out.out.2 (XDj.out.1 h)) (by decide)))
          have IN := hd9 (NX.out ▸ JR.out)
          clear HB XDj XYj XNj
          go_wp2
          go_roundw
          case rel => exact ⟨j + 1, by omega, by go_num, IN.out⟩
          case measure => simp [intOf]; omega
      ·obtain rfl : j = n := by omega
       have hjn : ¬ ((j : Int) + 1 ≤ (j : Int)) := by omega
       go_wp2
       go_ret2
       exact ⟨_, by rw [X2.out]; rfl, by rw [X1.out]; exact JR.out.wide BW.out⟩
end Go.Proofs.YteoalkjngkcheaaGreat

/- ResolvePositions of the reference: what is no logical subscript and no text. -/
namespace Go.Proofs.YteoalkjngkcheaaGreat
open Go.RowKit
set_option maxRecDepth 100000
set_option linter.unusedVariables false

set_option maxHeartbeats 8000000 in
theorem specResolveA (d : Nat) (v : Vec) (val : Value) (n : Int) (nms : List ByteArray) (na : Option Addr) (nc lo hi lo2 hi2 : Nat) (w : World) (hv : VecAt lo hi w d v val) (hhi : hi ≤ w.heap.size) (hsm : Small d v) (hT : TextsAt lo2 hi2 w na nms) (hh2 : hi2 ≤ w.heap.size) (ln2 : nms.length ≤ 1048576) (hA : ¬ (ValidV v ∧ NmOk n nms ∧ (kindV v = 1 ∨ kindV v = 3 ∨ kindV v = 0))) :
  Calls Tryz.prog 16 #[.int .i64 n, .slice na nms.length nc, val] w (ResZ (rsZ n nms v) (rsS n nms v) w) := by
 have C1 := hd9 (fun (w1 : World) (hb : Below w.heap.size w w1) => specIsVector d v val lo hi w1 (hv.below hb hhi) (Nat.le_trans hhi hb.size) hsm)
 obtain ⟨VV, hVV⟩ : ∃ V, v = V := ⟨_, rfl⟩
 rw [hVV] at C1 ⊢
 obtain ⟨kk, items, parts, names, cls, levels, code, env⟩ := v
 obtain ⟨d', ai, ci, ap, cp, an, cn, ac, cc, al, cl, ed, rfl, hI, hN, hC, hL, hP⟩ := vecAt_open hv
 subst ed
 have XK : kindV VV = kk := by rw [← hVV]; rfl
 have XY := hd9 (fun (h : ValidV VV) (h2 : NmOk n nms) => (by rw [← hVV] at h ⊢; exact rs_yes h h2 : rsZ n nms VV = rkZ kk items nms n.toNat ∧ rsS n nms VV = rkS kk items))
 have XF := hd9 (fun (h : ValidV VV) => (by rw [← hVV] at h; exact h.1.flat : FlatOk kk items parts.length names cls levels code env))
 have HI := hd9 (fun (W : World) (hb : Below w.heap.size w W) => hI.below hb hhi)
 have HT := hd9 (fun (W : World) (hb : Below w.heap.size w W) => hT.below hb hh2)
 clear hv hI hN hC hL hP hsm hT
 obtain ⟨wA, hwA⟩ : ∃ W, w.alloc (.cells #[.int .i64 kk, .slice ai items.length ci, .slice ap parts.length cp, .slice an names.length cn, .slice ac cls.length cc, .slice al levels.length cl, .int .i64 code, .int .i64 env] 31) = W := ⟨_, rfl⟩
 have BA := hd9 (show Below w.heap.size w wA from hwA ▸ below1 w _)
 have KA := hd9 (show wA.heap[w.heap.size]? = some (.cells #[.int .i64 kk, .slice ai items.length ci, .slice ap parts.length cp, .slice an names.length cn, .slice ac cls.length cc, .slice al levels.length cl, .int .i64 code, .int .i64 env] 31 (0, 0)) from hwA ▸ blk_new w _ rfl)
 have hsA : wA.heap.size = w.heap.size + 1 := by rw [← hwA]; simp
 have HSA := hd9 (show w.heap.size < wA.heap.size by omega)
 obtain ⟨w1, hw1⟩ : ∃ W, wA.alloc (.cells #[] 3) = W := ⟨_, rfl⟩
 have ST := hd9 (show IntZ wA w1 [] (.slice (some ⟨w.heap.size + 1, 0, none⟩) 0 0) from hsA ▸ hw1 ▸ IntZ.nil0 wA wA (Below.refl _ _))
 have EWA := hd9 hwA
 have EW1 := hd9 hw1
 clear hwA hw1 hsA
 rw [hVV] at hA
 go_enter Tryz.func16, Tryz.ntmps16
 go_wp2_with fail
 rw [EWA.out, EW1.out]
 clear EWA EW1
 with_reducible refine (C1.out _ (below_then BA.out ST.out.below)).mono ?_
 rintro e w2 ⟨rfl, b⟩
 have ST := hd9 (ST.out.keep b)
 clear b C1
 by_cases q : ValidV VV
 ·rw [bB_yes q]
  by_cases h2 : NmOk n nms
  ·have hA2 : ¬ (kk = 1 ∨ kk = 3 ∨ kk = 0) := fun e => hA ⟨q, h2, XK ▸ e⟩
   have hF := XF.out q
   have hk := hF.h_kind
   have hlen := hF.h_len
   have hit := hF.h_items
   have hnull := hF.h_null
   obtain ⟨x1, x2⟩ := XY.out q h2
   have X1 := hd9 x1
   have X2 := hd9 x2
   obtain ⟨n0, n40, hnm⟩ := h2
   obtain ⟨N, rfl⟩ : ∃ N : Nat, n = N := ⟨n.toNat, by omega⟩
   have hNN : (N : Int).toNat = N := rfl
   rw [hNN] at X1
   have hl40 : ¬ kk = 5 → items.length ≤ 40 := fun h => by unfold lenV at hlen; rw [if_neg h] at hlen; omega
   have HIT := hd9 hit
   have CL := hd9 (fun W => by have h := l1In_any (N : Int) 0 40 W; rw [decide_eq_true ⟨n0, n40⟩] at h; exact h)
   have hnm' : nms.length = 0 ∨ nms.length = N := by omega
   have hnp : (((nms.length : Nat) : Int) != 0) = false ∨ ((((nms.length : Nat) : Int) != 0) = true ∧ (((nms.length : Nat) : Int) != (N : Int)) = false) := by
    rcases hnm' with e | e
    ·exact .inl (by rw [e]; rfl)
    ·by_cases e0 : nms.length = 0
     ·exact .inl (by rw [e0]; rfl)
     ·exact .inr ⟨bne_iff_ne.2 (by omega), by rw [e]; simp⟩
   clear x1 x2 hF XF XY hlen hit hNN
   have NUM := hd9 (fun (h3 : kk = 2) (W : World) (hb : Below w.heap.size w W) => specNumbers items ai ci lo hi N W (HI.out W hb) (Nat.le_trans hhi hb.size) (by have := hl40 (by omega); omega) (by omega) (fun i hi => numIt_of (HIT.out i hi).1 (by omega)))
   have KA2 := hd9 (show w2.heap[w.heap.size]? = some (.cells #[.int .i64 kk, .slice ai items.length ci, .slice ap parts.length cp, .slice an names.length cn, .slice ac cls.length cc, .slice al levels.length cl, .int .i64 code, .int .i64 env] 31 (0, 0)) from (ST.out.below.block _ HSA.out).trans KA.out)
   obtain ⟨k0, k1, k2, k3, k4, k5, k6, k7⟩ := vec8 KA2.out
   have W2N := hd9 (show Below w.heap.size w w2 from below_then BA.out ST.out.below)
   have hkk : 4 ≤ kk ∨ kk = 2 := by omega
   clear q hA hVV XK
   rcases hkk with hk4 | rfl
   ·have X1 := hd9 (X1.out.trans (rk_list hk4).1)
    have X2 := hd9 (X2.out.trans (rk_list hk4 (names := []) (n := 0)).2)
    clear NUM HIT hl40 HI HT hnm'
    rcases hnp with hnp | ⟨hnp, hnq⟩
    ·go_wp2_with fail
     refine (CL.out _).mono ?_
     rintro e wq ⟨rfl, rfl⟩
     go_wp2
     go_ret2
     exact ⟨_, by rw [X2.out]; rfl, by rw [X1.out]; exact ST.out.wide BA.out⟩
    ·go_wp2_with fail
     refine (CL.out _).mono ?_
     rintro e wq ⟨rfl, rfl⟩
     go_wp2
     go_ret2
     exact ⟨_, by rw [X2.out]; rfl, by rw [X1.out]; exact ST.out.wide BA.out⟩
   ·have X1 := hd9 (X1.out.trans rk_num.1)
    have X2 := hd9 (X2.out.trans (rk_num (names := []) (n := 0)).2)
    clear HIT hl40 HI HT hnm'
    rcases hnp with hnp | ⟨hnp, hnq⟩
    ·go_wp2_with fail
     refine (CL.out _).mono ?_
     rintro e wq ⟨rfl, rfl⟩
     go_wp2_with fail
     refine (NUM.out (by first | trivial | rfl) _ W2N.out).mono ?_
     rintro e w4 ⟨v, rfl, hz⟩
     have HZ := hd9 (hz.wide W2N.out)
     clear hz
     go_wp2
     go_ret2
     exact ⟨_, by rw [X2.out]; rfl, by rw [X1.out]; exact HZ.out⟩
    ·go_wp2_with fail
     refine (CL.out _).mono ?_
     rintro e wq ⟨rfl, rfl⟩
     go_wp2_with fail
     refine (NUM.out (by first | trivial | rfl) _ W2N.out).mono ?_
     rintro e w4 ⟨v, rfl, hz⟩
     have HZ := hd9 (hz.wide W2N.out)
     clear hz
     go_wp2
     go_ret2
     exact ⟨_, by rw [X2.out]; rfl, by rw [X1.out]; exact HZ.out⟩
  ·have XX := hd9 (rs_names q h2)
   have EN := hd9 (show ResZ (rsZ n nms VV) (rsS n nms VV) w (.returned (.tuple #[.slice (some ⟨w.heap.size + 1, 0, none⟩) 0 0, .string innB])) w2 from ⟨_, by rw [XX.out.2], by rw [XX.out.1]; exact ST.out.wide BA.out⟩)
   have CL := hd9 (fun W => l1In_any n 0 40 W)
   obtain ⟨ln, hln⟩ : ∃ x, nms.length = x := ⟨_, rfl⟩
   have hno : ¬ (0 ≤ n ∧ n ≤ 40 ∧ (ln = 0 ∨ (ln : Int) = n)) := by rw [← hln]; exact h2
   rw [hln]
   clear q XY XF HI HT h2 hln ln2 XX hA hVV XK
   by_cases hn : 0 ≤ n ∧ n ≤ 40
   ·have CL := hd9 (fun W => by have h := CL.out W; rw [decide_eq_true hn] at h; exact h)
    have h3 : 0 < ln ∧ ¬ (ln : Int) = n := by omega
    obtain ⟨h3, h4⟩ := h3
    have h3' : ¬ ln = 0 := by omega
    have h3b : ((ln : Int) != 0) = true := bne_iff_ne.2 (by omega)
    have h4' : ((ln : Int) != n) = true := bne_iff_ne.2 h4
    clear hno
    go_wp2_with fail
    refine (CL.out _).mono ?_
    rintro e wq ⟨rfl, rfl⟩
    go_wp2
    go_ret2
    exact EN.out
   ·have CL := hd9 (fun W => by have h := CL.out W; rw [decide_eq_false hn] at h; exact h)
    clear hno hn
    go_wp2_with fail
    refine (CL.out _).mono ?_
    rintro e wq ⟨rfl, rfl⟩
    go_wp2
    go_ret2
    exact EN.out
 ·rw [bB_no q]
  have XX := hd9 (rs_bad (n := n) (names := nms) q)
  clear q XY XF hA hVV XK
  go_wp2
  go_ret2
  exact ⟨_, by rw [XX.out.2]; rfl, by rw [XX.out.1]; exact ST.out.wide BA.out⟩
end Go.Proofs.YteoalkjngkcheaaGreat

/- ResolvePositions of the reference: logical subscripts. -/
namespace Go.Proofs.YteoalkjngkcheaaGreat
open Go.RowKit
set_option maxRecDepth 100000
set_option linter.unusedVariables false

theorem name_row {w0 wx : World} {n B : Nat} {X : Array Value} {t : TypeId} (h1 : Below B w0 (wx.setRow n X)) (h2 : (wx.setRow n X).heap[n]? = some (.cells X t (0, 0))) : ∃ W, wx.setRow n X = W ∧ Below B w0 W ∧ W.heap[n]? = some (.cells X t (0, 0)) := ⟨_, rfl, h1, h2⟩
set_option maxHeartbeats 16000000 in
theorem specResolveL (d : Nat) (v : Vec) (val : Value) (n : Int) (nms : List ByteArray) (na : Option Addr) (nc lo hi lo2 hi2 : Nat) (w : World) (hv : VecAt lo hi w d v val) (hhi : hi ≤ w.heap.size) (hsm : Small d v) (hT : TextsAt lo2 hi2 w na nms) (hh2 : hi2 ≤ w.heap.size) (ln2 : nms.length ≤ 1048576) (q : ValidV v) (h2 : NmOk n nms) (hk1 : kindV v = 1) :
  Calls Tryz.prog 16 #[.int .i64 n, .slice na nms.length nc, val] w (ResZ (rsZ n nms v) (rsS n nms v) w) := by
 have C1 := hd9 (fun (w1 : World) (hb : Below w.heap.size w w1) => specIsVector d v val lo hi w1 (hv.below hb hhi) (Nat.le_trans hhi hb.size) hsm)
 obtain ⟨VV, hVV⟩ : ∃ V, v = V := ⟨_, rfl⟩
 rw [hVV] at C1 ⊢
 obtain ⟨kk, items, parts, names, cls, levels, code, env⟩ := v
 obtain ⟨d', ai, ci, ap, cp, an, cn, ac, cc, al, cl, ed, rfl, hI, hN, hC, hL, hP⟩ := vecAt_open hv
 subst ed
 have XK : kindV VV = kk := by rw [← hVV]; rfl
 have XY := hd9 (fun (h : ValidV VV) (h2 : NmOk n nms) => (by rw [← hVV] at h ⊢; exact rs_yes h h2 : rsZ n nms VV = rkZ kk items nms n.toNat ∧ rsS n nms VV = rkS kk items))
 have XF := hd9 (fun (h : ValidV VV) => (by rw [← hVV] at h; exact h.1.flat : FlatOk kk items parts.length names cls levels code env))
 have HI := hd9 (fun (W : World) (hb : Below w.heap.size w W) => hI.below hb hhi)
 have HT := hd9 (fun (W : World) (hb : Below w.heap.size w W) => hT.below hb hh2)
 clear hv hI hN hC hL hP hsm hT
 obtain ⟨wA, hwA⟩ : ∃ W, w.alloc (.cells #[.int .i64 kk, .slice ai items.length ci, .slice ap parts.length cp, .slice an names.length cn, .slice ac cls.length cc, .slice al levels.length cl, .int .i64 code, .int .i64 env] 31) = W := ⟨_, rfl⟩
 have BA := hd9 (show Below w.heap.size w wA from hwA ▸ below1 w _)
 have KA := hd9 (show wA.heap[w.heap.size]? = some (.cells #[.int .i64 kk, .slice ai items.length ci, .slice ap parts.length cp, .slice an names.length cn, .slice ac cls.length cc, .slice al levels.length cl, .int .i64 code, .int .i64 env] 31 (0, 0)) from hwA ▸ blk_new w _ rfl)
 have hsA : wA.heap.size = w.heap.size + 1 := by rw [← hwA]; simp
 have HSA := hd9 (show w.heap.size < wA.heap.size by omega)
 obtain ⟨w1, hw1⟩ : ∃ W, wA.alloc (.cells #[] 3) = W := ⟨_, rfl⟩
 have ST := hd9 (show IntZ wA w1 [] (.slice (some ⟨w.heap.size + 1, 0, none⟩) 0 0) from hsA ▸ hw1 ▸ IntZ.nil0 wA wA (Below.refl _ _))
 have EWA := hd9 hwA
 have EW1 := hd9 hw1
 clear hwA hw1 hsA
 rw [hVV] at q hk1
 rw [XK] at hk1
 subst hk1
 go_enter Tryz.func16, Tryz.ntmps16
 go_wp2_with fail
 rw [EWA.out, EW1.out]
 clear EWA EW1
 with_reducible refine (C1.out _ (below_then BA.out ST.out.below)).mono ?_
 rintro e w2 ⟨rfl, b⟩
 have ST := hd9 (ST.out.keep b)
 clear b C1
 rw [bB_yes q]
 have hF := XF.out q
 have hk := hF.h_kind
 have hlen := hF.h_len
 have hit := hF.h_items
 have hnull := hF.h_null
 obtain ⟨x1, x2⟩ := XY.out q h2
 have X1 := hd9 x1
 have X2 := hd9 x2
 obtain ⟨n0, n40, hnm⟩ := h2
 obtain ⟨N, rfl⟩ : ∃ N : Nat, n = N := ⟨n.toNat, by omega⟩
 have hNN : (N : Int).toNat = N := rfl
 rw [hNN] at X1
 have hl40 : ¬ (1 : Int) = 5 → items.length ≤ 40 := fun h => by unfold lenV at hlen; rw [if_neg h] at hlen; omega
 have HIT := hd9 hit
 have CL := hd9 (fun W => by have h := l1In_any (N : Int) 0 40 W; rw [decide_eq_true ⟨n0, n40⟩] at h; exact h)
 have hnm' : nms.length = 0 ∨ nms.length = N := by omega
 have hnp : (((nms.length : Nat) : Int) != 0) = false ∨ ((((nms.length : Nat) : Int) != 0) = true ∧ (((nms.length : Nat) : Int) != (N : Int)) = false) := by
  rcases hnm' with e | e
  ·exact .inl (by rw [e]; rfl)
  ·by_cases e0 : nms.length = 0
   ·exact .inl (by rw [e0]; rfl)
   ·exact .inr ⟨bne_iff_ne.2 (by omega), by rw [e]; simp⟩
 clear x1 x2 hF XF XY hlen hit hNN
 have KA2 := hd9 (show w2.heap[w.heap.size]? = some (.cells #[.int .i64 1, .slice ai items.length ci, .slice ap parts.length cp, .slice an names.length cn, .slice ac cls.length cc, .slice al levels.length cl, .int .i64 code, .int .i64 env] 31 (0, 0)) from (ST.out.below.block _ HSA.out).trans KA.out)
 obtain ⟨k0, k1, k2, k3, k4, k5, k6, k7⟩ := vec8 KA2.out
 have W2N := hd9 (show Below w.heap.size w w2 from below_then BA.out ST.out.below)
 clear q hVV XK
 have X1 := hd9 (X1.out.trans rk_lgc.1)
 have X2 := hd9 (X2.out.trans (rk_lgc (items := items) (names := []) (n := 0)).2)
 have AI := hd9 (fun (k : Nat) (W : World) (hk : k < items.length) (hb : Below w.heap.size w W) => (HI.out W hb).at_ hk)
 have LT := hd9 (fun k (hk : k < items.length) => (by rcases (HIT.out k hk).1 with h | ⟨_, h1, h2, h3, _⟩ | ⟨h, _⟩ | ⟨h, _⟩; exact .inl h; exact .inr ⟨h1, h2, h3⟩; exact absurd h (by decide); exact absurd h (by decide) : items.getD k noI = noI ∨ (items.getD k noI).d = 1 ∧ 0 ≤ (items.getD k noI).n ∧ (items.getD k noI).n ≤ 1))
 have LE := hd9 (lgP_len items)
 have PM := hd9 (fun k h => lgP_miss (l := items) (k := k) h)
 have PY := hd9 (fun k h => lgP_yes (l := items) (k := k) h)
 have PN := hd9 (fun k h => lgP_no (l := items) (k := k) h)
 have ST := hd9 (show IntZ wA w2 (lgP items 0) (.slice (some ⟨w.heap.size + 1, 0, none⟩) 0 0) from ST.out)
 have L40 := hl40 (by decide)
 by_cases h0 : items.length = 0
 ·have EM := lgM_zero (n := N) h0
  rw [EM] at X1
  rw [h0] at k1
  clear HIT hl40 HI HT hnm' AI LT LE PM PY PN EM h0 L40
  rcases hnp with hnp | ⟨hnp, hnq⟩
  ·go_wp2_with fail
   refine (CL.out _).mono ?_
   rintro e wq ⟨rfl, rfl⟩
   go_wp2
   go_loopw [8, 11] (fun v i wr => v = .slice (some ⟨w.heap.size + 1, 0, none⟩) 0 0 ∧ i = .int .i64 0 ∧ wr = w2) (fun _ _ _ => 0)
   case atStart => exact ⟨rfl, rfl, rfl⟩
   case round =>
    obtain ⟨rfl, rfl, rfl⟩ := hrel
    go_wp2
    go_ret2
    exact ⟨_, by rw [X2.out]; rfl, by rw [X1.out]; exact ST.out.wide BA.out⟩
  ·go_wp2_with fail
   refine (CL.out _).mono ?_
   rintro e wq ⟨rfl, rfl⟩
   go_wp2
   go_loopw [8, 11] (fun v i wr => v = .slice (some ⟨w.heap.size + 1, 0, none⟩) 0 0 ∧ i = .int .i64 0 ∧ wr = w2) (fun _ _ _ => 0)
   case atStart => exact ⟨rfl, rfl, rfl⟩
   case round =>
    obtain ⟨rfl, rfl, rfl⟩ := hrel
    go_wp2
    go_ret2
    exact ⟨_, by rw [X2.out]; rfl, by rw [X1.out]; exact ST.out.wide BA.out⟩
 ·have EM := lgM_pos (n := N) h0
  obtain ⟨m, hm⟩ : ∃ m, lgM items N = m := ⟨_, rfl⟩
  rw [hm] at EM X1
  obtain ⟨L, hL⟩ : ∃ L, items.length = L := ⟨_, rfl⟩
  rw [hL] at AI LT PM PY PN EM L40 h0 k1
  have KA := hd9 (hL ▸ KA.out)
  have hLp : 0 < L := by omega
  have hLi : (0 : Int) < (L : Int) := by omega
  have h0b : ((L : Int) == 0) = false := beq_eq_false_iff_ne.2 (by omega)
  have hm40 : m ≤ 40 := by omega
  obtain ⟨l, hl⟩ : ∃ l, items = l := ⟨_, rfl⟩
  rw [hl] at LT LE PM PY PN ST X1 AI
  have hmx : (if (N : Int) < (L : Int) then (L : Int) else (N : Int)) = (m : Int) := by rw [EM]; split <;> omega
  have hmy : (if N < L then (L : Int) else (N : Int)) = (m : Int) := by rw [EM]; split <;> omega
  clear HIT hl40 HI HT hnm' hm EM h0 KA2 n0 n40 hnm
  rcases hnp with hnp | ⟨hnp, hnq⟩
  ·go_wp2_with fail
   refine (CL.out _).mono ?_
   rintro e wq ⟨rfl, rfl⟩
   go_wp2
   go_loopw [8, 11] (fun v i wr => ∃ k : Nat, k ≤ m ∧ i = .int .i64 k ∧ IntZ wA wr (lgP l k) v) (fun _ i _ => m - (intOf i).toNat)
   case atStart => exact ⟨0, Nat.zero_le _, rfl, ST.out⟩
   case round =>
    obtain ⟨k, hk, rfl, hir⟩ := hrel
    have IR := hd9 hir
    clear hir
    have KAr := hd9 (show wr.heap[w.heap.size]? = some (.cells #[.int .i64 1, .slice ai L ci, .slice ap parts.length cp, .slice an names.length cn, .slice ac cls.length cc, .slice al levels.length cl, .int .i64 code, .int .i64 env] 31 (0, 0)) from (IR.out.below.block _ HSA.out).trans KA.out)
    by_cases hlt : k < m
    ·have hmk0 : k % L < L := Nat.mod_lt k hLp
     obtain ⟨ba, off, rfl, hbB, c0, c1, c2'⟩ := AI.out (k % L) wr hmk0 (below_then BA.out IR.out.below)
     have c2 : wr.cell? ⟨ba, off + k % L * 3 + 2, none⟩ = some (.string (l.getD (k % L) noI).t) := c2'
     have LN := hd9 (show (lgP l k).length ≤ 1048576 by have := LE.out k; omega)
     have P1 := hd9 (PM.out k)
     have P2 := hd9 (PY.out k)
     have P3 := hd9 (PN.out k)
     have IT := LT.out (k % L) hmk0
     have hbw : ba < wr.heap.size := Nat.lt_of_lt_of_le hbB (Nat.le_trans hhi (Nat.le_trans BA.out.size IR.out.below.size))
     obtain ⟨x, hx⟩ : ∃ x, l.getD (k % L) noI = x := ⟨_, rfl⟩
     rw [hx] at c0 c1 c2 P1 P2 P3 IT
     have HMOD := hd9 (show (k : Int).tmod (L : Int) = ((k % L : Nat) : Int) from rfl)
     obtain ⟨q, hq⟩ : ∃ q, k % L = q := ⟨_, rfl⟩
     have hmk : q < L := hq ▸ hmk0
     rw [hq] at c0 c1 c2 HMOD
     have H := hd9 (show HeldC wr wr [(w.heap.size, 31, #[.int .i64 1, .slice (some ⟨ba, off, none⟩) L ci, .slice ap parts.length cp, .slice an names.length cn, .slice ac cls.length cc, .slice al levels.length cl, .int .i64 code, .int .i64 env])] from heldC_one (Below.refl _ _) KAr.out)
     obtain ⟨k0, k1, k2, k3, k4, k5, k6, k7⟩ := vec8 KAr.out
     clear hx c2' hq
     go_upto_region 15 with (fail)
     clear k0 k1 k2 k3 k4 k5 k6 k7
     refine run_regionT (ops := (opsOf Tryz.f16 15)) (S := fun w' => HeldC wr w' ([(w.heap.size, 31, #[.int .i64 1, .slice (some ⟨ba, off, none⟩) L ci, .slice ap parts.length cp, .slice an names.length cn, .slice ac cls.length cc, .slice al levels.length cl, .int .i64 code, .int .i64 env])])) (.leaf [(0, true), (1, true), (2, true), (3, true), (4, true), (5, true), (6, true), (7, true), (8, true), (9, false), (10, false)]) (by kernel_rfl) (by kernel_rfl) (by kernel_rfl) (by kernel_rfl) (by kernel_rfl) (fun _ _ _ _ _ h => h) (heldC_drew H.out) ?_
     have H := hd9 (heldC_drew H.out)
     refine runC_partV (b := w.heap.size) (by kernel_rfl) (show opAt (opsOf Tryz.f16 15) 0 = some (some 76, .fieldAddr 31 (.tmp 5) 1, none) from by kernel_rfl) (by kernel_rfl) (by kernel_rfl) (by kernel_rfl) ?_
     refine runC_cell (b := w.heap.size) (j := 1) (v := .slice (some ⟨ba, off, none⟩) L ci) load_its (show opAt (opsOf Tryz.f16 15) 1 = some (some 77, .load 28 (.tmp 76), none) from by kernel_rfl) (by kernel_rfl) (by kernel_rfl) (by kernel_rfl) mh9 rfl ?_
     refine run_mov (v := .int .i64 ((k : Int))) (show opAt (opsOf Tryz.f16 15) 2 = some (some 78, .move (.tmp 11), none) from by kernel_rfl) (by kernel_rfl) (by kernel_rfl) (by kernel_rfl) ?_
     refine runC_partV (b := w.heap.size) (by kernel_rfl) (show opAt (opsOf Tryz.f16 15) 3 = some (some 79, .fieldAddr 31 (.tmp 5) 1, none) from by kernel_rfl) (by kernel_rfl) (by kernel_rfl) (by kernel_rfl) ?_
     refine runC_cell (b := w.heap.size) (j := 1) (v := .slice (some ⟨ba, off, none⟩) L ci) load_its (show opAt (opsOf Tryz.f16 15) 4 = some (some 80, .load 28 (.tmp 79), none) from by kernel_rfl) (by kernel_rfl) (by kernel_rfl) (by kernel_rfl) mh9 rfl ?_
     refine run_len (b := (some ⟨ba, off, none⟩)) (n := L) (c := ci) (show opAt (opsOf Tryz.f16 15) 5 = some (some 81, .call { callee := .builtin .len, args := [(.tmp 80)].toArray, argTypes := [28].toArray }, none) from by kernel_rfl) (by kernel_rfl) (by kernel_rfl) (by kernel_rfl) (by kernel_rfl) ?_
     refine run_rem (k := .i64) (p := (k : Int)) (q := (L : Int)) (z := ((q : Nat) : Int)) (show opAt (opsOf Tryz.f16 15) 6 = some (some 82, .binOp .rem 3 (.tmp 78) (.tmp 81) 3, none) from by kernel_rfl) (by kernel_rfl) (by kernel_rfl) (by kernel_rfl) (by kernel_rfl) ⟨by omega, by first | exact HMOD.out | (have := HMOD.out; simpa using this)⟩ ?_
     refine run_idx3 (n := L) (c := ci) (b := ba) (off := off) (k := q) (show opAt (opsOf Tryz.f16 15) 7 = some (some 83, .indexAddr 28 (.tmp 77) (.tmp 82), none) from by kernel_rfl) (by kernel_rfl) (by kernel_rfl) (by kernel_rfl) (by kernel_rfl) hmk ?_
     refine runC_oldI (b := ba) (j := off + q * 3) (z := x) (show opAt (opsOf Tryz.f16 15) 8 = some (some 84, .load 64 (.tmp 83), none) from by kernel_rfl) (by kernel_rfl) (by kernel_rfl) (by kernel_rfl) hbw c0 c1 c2 ?_
     refine run_new (C := #[.int .i64 0, .int .i64 0, .string ⟨#[]⟩]) (show opAt (opsOf Tryz.f16 15) 9 = some (some 12, .alloc 64, none) from by kernel_rfl) (by kernel_rfl) (by kernel_rfl) new_item (fun W9 n9 hW9 hn9 => ?_)
     subst hW9
     refine ⟨heldC_call H.out (below1 _ _), ?_⟩
     have N9 := hd9 (⟨blk_new _ _ hn9⟩ : NewB n9 64 #[.int .i64 0, .int .i64 0, .string ⟨#[]⟩] _)
     have G9 := hd9 (by rw [hn9]; exact H.out.1.size : wr.heap.size ≤ n9)
     have F9_0 := hd9 (by rw [hn9]; exact (gs9.1 (heldC_at H.out mh9)).1 : w.heap.size < n9)
     have H := hd9 (heldC_call H.out (below1 _ (.cells #[.int .i64 0, .int .i64 0, .string ⟨#[]⟩] 64)))
     have NE9 := hd9 hn9
     clear hn9
     refine run_last (by kernel_rfl) (show opAt (opsOf Tryz.f16 15) 10 = some (none, .store 64 (.tmp 12) (.tmp 84), none) from by kernel_rfl) (by kernel_rfl) (by kernel_rfl) (by kernel_rfl) (store_item (u := .int .i64 x.n) (v := .int .i64 x.d) (q := .string x.t) N9.out.out rfl rfl rfl) ?_
     refine run_done ?_
     simp only [putAll, Act.put, List.setIfInBounds_toArray, List.set_cons_zero, List.set_cons_succ]
     have F0 := F9_0.out
     have G0 := G9.out
     obtain ⟨wb, hwb, br, kx⟩ := name_row (below_row H.out.1 G0 #[.int .i64 x.n, .int .i64 x.d, .string x.t]) (row_set (c := #[.int .i64 x.n, .int .i64 x.d, .string x.t]) N9.out.out)
     rw [hwb]
     have KX := hd9 kx
     have BR := hd9 br
     clear hwb br kx G0 F0 H N9 G9 F9_0 NE9
     rcases IT with rfl | ⟨h1, h2, h3⟩
     ·have NX := hd9 (P1.out rfl)
      clear P1 P2 P3
      have IR := hd9 (IR.out.keep BR.out)
      have c0x := cellOf KX.out (i := 0) rfl
      have c1x := cellOf KX.out (i := 1) rfl
      have c2x := cellOf KX.out (i := 2) rfl
      go_wp2_with (at_builtin; go_loud (refine wpList_appInt rfl _ _ rfl 0 (lgP l k) _ _ rfl rfl (IR.out.keep (below1 _ _)) (blk_new _ _ rfl) LN.out ?_))
      intro v' w3 hir
      have IN := hd9 (NX.out ▸ hir)
      clear hir
      go_wp2
      go_roundw
      case rel => exact ⟨k + 1, by omega, by go_num, IN.out⟩
      case measure => simp [intOf]; omega
     ·have hd0 : ¬ x.d = 0 := by omega
      have hd0b : (x.d == 0) = false := beq_eq_false_iff_ne.2 hd0
      by_cases hn1 : x.n = 1
      ·have NX := hd9 (P2.out (by unfold truthI; rw [if_neg hd0, if_neg (by omega)]))
       have hn1b : (x.n == 1) = true := by rw [hn1]; rfl
       clear P1 P2 P3
       have IR := hd9 (IR.out.keep BR.out)
       have c0x := cellOf KX.out (i := 0) rfl
       have c1x := cellOf KX.out (i := 1) rfl
       have c2x := cellOf KX.out (i := 2) rfl
       go_wp2_with (at_builtin; go_loud (refine wpList_appInt rfl _ _ rfl ((k : Int) + 1) (lgP l k) _ _ rfl rfl (IR.out.keep (below1 _ _)) (blk_new _ _ rfl) LN.out ?_))
       intro v' w3 hir
       have IN := hd9 (NX.out ▸ hir)
       clear hir
       go_wp2
       go_roundw
       case rel => exact ⟨k + 1, by omega, by go_num, IN.out⟩
       case measure => simp [intOf]; omega
      ·have NX := hd9 (P3.out (by unfold truthI; rw [if_neg hd0, if_pos (by omega)]))
       have hn1b : (x.n == 1) = false := beq_eq_false_iff_ne.2 hn1
       clear P1 P2 P3
       have IR := hd9 (IR.out.keep BR.out)
       have c0x := cellOf KX.out (i := 0) rfl
       have c1x := cellOf KX.out (i := 1) rfl
       have c2x := cellOf KX.out (i := 2) rfl
       have IN := hd9 (NX.out ▸ IR.out)
       go_wp2
       go_roundw
       case rel => exact ⟨k + 1, by omega, by go_num, IN.out⟩
       case measure => simp [intOf]; omega
    ·obtain rfl : k = m := by omega
     obtain ⟨k0, k1, k2, k3, k4, k5, k6, k7⟩ := vec8 KAr.out
     go_wp2
     go_ret2
     exact ⟨_, by rw [X2.out]; rfl, by rw [X1.out]; exact IR.out.wide BA.out⟩
  ·go_wp2_with fail
   refine (CL.out _).mono ?_
   rintro e wq ⟨rfl, rfl⟩
   go_wp2
   go_loopw [8, 11] (fun v i wr => ∃ k : Nat, k ≤ m ∧ i = .int .i64 k ∧ IntZ wA wr (lgP l k) v) (fun _ i _ => m - (intOf i).toNat)
   case atStart => exact ⟨0, Nat.zero_le _, rfl, ST.out⟩
   case round =>
    obtain ⟨k, hk, rfl, hir⟩ := hrel
    have IR := hd9 hir
    clear hir
    have KAr := hd9 (show wr.heap[w.heap.size]? = some (.cells #[.int .i64 1, .slice ai L ci, .slice ap parts.length cp, .slice an names.length cn, .slice ac cls.length cc, .slice al levels.length cl, .int .i64 code, .int .i64 env] 31 (0, 0)) from (IR.out.below.block _ HSA.out).trans KA.out)
    by_cases hlt : k < m
    ·have hmk0 : k % L < L := Nat.mod_lt k hLp
     obtain ⟨ba, off, rfl, hbB, c0, c1, c2'⟩ := AI.out (k % L) wr hmk0 (below_then BA.out IR.out.below)
     have c2 : wr.cell? ⟨ba, off + k % L * 3 + 2, none⟩ = some (.string (l.getD (k % L) noI).t) := c2'
     have LN := hd9 (show (lgP l k).length ≤ 1048576 by have := LE.out k; omega)
     have P1 := hd9 (PM.out k)
     have P2 := hd9 (PY.out k)
     have P3 := hd9 (PN.out k)
     have IT := LT.out (k % L) hmk0
     have hbw : ba < wr.heap.size := Nat.lt_of_lt_of_le hbB (Nat.le_trans hhi (Nat.le_trans BA.out.size IR.out.below.size))
     obtain ⟨x, hx⟩ : ∃ x, l.getD (k % L) noI = x := ⟨_, rfl⟩
     rw [hx] at c0 c1 c2 P1 P2 P3 IT
     have HMOD := hd9 (show (k : Int).tmod (L : Int) = ((k % L : Nat) : Int) from rfl)
     obtain ⟨q, hq⟩ : ∃ q, k % L = q := ⟨_, rfl⟩
     have hmk : q < L := hq ▸ hmk0
     rw [hq] at c0 c1 c2 HMOD
     have H := hd9 (show HeldC wr wr [(w.heap.size, 31, #[.int .i64 1, .slice (some ⟨ba, off, none⟩) L ci, .slice ap parts.length cp, .slice an names.length cn, .slice ac cls.length cc, .slice al levels.length cl, .int .i64 code, .int .i64 env])] from heldC_one (Below.refl _ _) KAr.out)
     obtain ⟨k0, k1, k2, k3, k4, k5, k6, k7⟩ := vec8 KAr.out
     clear hx c2' hq
     go_upto_region 15 with (fail)
     clear k0 k1 k2 k3 k4 k5 k6 k7
     refine run_regionT (ops := (opsOf Tryz.f16 15)) (S := fun w' => HeldC wr w' ([(w.heap.size, 31, #[.int .i64 1, .slice (some ⟨ba, off, none⟩) L ci, .slice ap parts.length cp, .slice an names.length cn, .slice ac cls.length cc, .slice al levels.length cl, .int .i64 code, .int .i64 env])])) (.leaf [(0, true), (1, true), (2, true), (3, true), (4, true), (5, true), (6, true), (7, true), (8, true), (9, false), (10, false)]) (by kernel_rfl) (by kernel_rfl) (by kernel_rfl) (by kernel_rfl) (by kernel_rfl) (fun _ _ _ _ _ h => h) (heldC_drew H.out) ?_
     have H := hd9 (heldC_drew H.out)
     refine runC_partV (b := w.heap.size) (by kernel_rfl) (show opAt (opsOf Tryz.f16 15) 0 = some (some 76, .fieldAddr 31 (.tmp 5) 1, none) from by kernel_rfl) (by kernel_rfl) (by kernel_rfl) (by kernel_rfl) ?_
     refine runC_cell (b := w.heap.size) (j := 1) (v := .slice (some ⟨ba, off, none⟩) L ci) load_its (show opAt (opsOf Tryz.f16 15) 1 = some (some 77, .load 28 (.tmp 76), none) from by kernel_rfl) (by kernel_rfl) (by kernel_rfl) (by kernel_rfl) mh9 rfl ?_
     refine run_mov (v := .int .i64 ((k : Int))) (show opAt (opsOf Tryz.f16 15) 2 = some (some 78, .move (.tmp 11), none) from by kernel_rfl) (by kernel_rfl) (by kernel_rfl) (by kernel_rfl) ?_
     refine runC_partV (b := w.heap.size) (by kernel_rfl) (show opAt (opsOf Tryz.f16 15) 3 = some (some 79, .fieldAddr 31 (.tmp 5) 1, none) from by kernel_rfl) (by kernel_rfl) (by kernel_rfl) (by kernel_rfl) ?_
     refine runC_cell (b := w.heap.size) (j := 1) (v := .slice (some ⟨ba, off, none⟩) L ci) load_its (show opAt (opsOf Tryz.f16 15) 4 = some (some 80, .load 28 (.tmp 79), none) from by kernel_rfl) (by kernel_rfl) (by kernel_rfl) (by kernel_rfl) mh9 rfl ?_
     refine run_len (b := (some ⟨ba, off, none⟩)) (n := L) (c := ci) (show opAt (opsOf Tryz.f16 15) 5 = some (some 81, .call { callee := .builtin .len, args := [(.tmp 80)].toArray, argTypes := [28].toArray }, none) from by kernel_rfl) (by kernel_rfl) (by kernel_rfl) (by kernel_rfl) (by kernel_rfl) ?_
     refine run_rem (k := .i64) (p := (k : Int)) (q := (L : Int)) (z := ((q : Nat) : Int)) (show opAt (opsOf Tryz.f16 15) 6 = some (some 82, .binOp .rem 3 (.tmp 78) (.tmp 81) 3, none) from by kernel_rfl) (by kernel_rfl) (by kernel_rfl) (by kernel_rfl) (by kernel_rfl) ⟨by omega, by first | exact HMOD.out | (have := HMOD.out; simpa using this)⟩ ?_
     refine run_idx3 (n := L) (c := ci) (b := ba) (off := off) (k := q) (show opAt (opsOf Tryz.f16 15) 7 = some (some 83, .indexAddr 28 (.tmp 77) (.tmp 82), none) from by kernel_rfl) (by kernel_rfl) (by kernel_rfl) (by kernel_rfl) (by kernel_rfl) hmk ?_
     refine runC_oldI (b := ba) (j := off + q * 3) (z := x) (show opAt (opsOf Tryz.f16 15) 8 = some (some 84, .load 64 (.tmp 83), none) from by kernel_rfl) (by kernel_rfl) (by kernel_rfl) (by kernel_rfl) hbw c0 c1 c2 ?_
     refine run_new (C := #[.int .i64 0, .int .i64 0, .string ⟨#[]⟩]) (show opAt (opsOf Tryz.f16 15) 9 = some (some 12, .alloc 64, none) from by kernel_rfl) (by kernel_rfl) (by kernel_rfl) new_item (fun W9 n9 hW9 hn9 => ?_)
     subst hW9
     refine ⟨heldC_call H.out (below1 _ _), ?_⟩
     have N9 := hd9 (⟨blk_new _ _ hn9⟩ : NewB n9 64 #[.int .i64 0, .int .i64 0, .string ⟨#[]⟩] _)
     have G9 := hd9 (by rw [hn9]; exact H.out.1.size : wr.heap.size ≤ n9)
     have F9_0 := hd9 (by rw [hn9]; exact (gs9.1 (heldC_at H.out mh9)).1 : w.heap.size < n9)
     have H := hd9 (heldC_call H.out (below1 _ (.cells #[.int .i64 0, .int .i64 0, .string ⟨#[]⟩] 64)))
     have NE9 := hd9 hn9
     clear hn9
     refine run_last (by kernel_rfl) (show opAt (opsOf Tryz.f16 15) 10 = some (none, .store 64 (.tmp 12) (.tmp 84), none) from by kernel_rfl) (by kernel_rfl) (by kernel_rfl) (by kernel_rfl) (store_item (u := .int .i64 x.n) (v := .int .i64 x.d) (q := .string x.t) N9.out.out rfl rfl rfl) ?_
     refine run_done ?_
     simp only [putAll, Act.put, List.setIfInBounds_toArray, List.set_cons_zero, List.set_cons_succ]
     have F0 := F9_0.out
     have G0 := G9.out
     obtain ⟨wb, hwb, br, kx⟩ := name_row (below_row H.out.1 G0 #[.int .i64 x.n, .int .i64 x.d, .string x.t]) (row_set (c := #[.int .i64 x.n, .int .i64 x.d, .string x.t]) N9.out.out)
     rw [hwb]
     have KX := hd9 kx
     have BR := hd9 br
     clear hwb br kx G0 F0 H N9 G9 F9_0 NE9
     rcases IT with rfl | ⟨h1, h2, h3⟩
     ·have NX := hd9 (P1.out rfl)
      clear P1 P2 P3
      have IR := hd9 (IR.out.keep BR.out)
      have c0x := cellOf KX.out (i := 0) rfl
      have c1x := cellOf KX.out (i := 1) rfl
      have c2x := cellOf KX.out (i := 2) rfl
      go_wp2_with (at_builtin; go_loud (refine wpList_appInt rfl _ _ rfl 0 (lgP l k) _ _ rfl rfl (IR.out.keep (below1 _ _)) (blk_new _ _ rfl) LN.out ?_))
      intro v' w3 hir
      have IN := hd9 (NX.out ▸ hir)
      clear hir
      go_wp2
      go_roundw
      case rel => exact ⟨k + 1, by omega, by go_num, IN.out⟩
      case measure => simp [intOf]; omega
     ·have hd0 : ¬ x.d = 0 := by omega
      have hd0b : (x.d == 0) = false := beq_eq_false_iff_ne.2 hd0
      by_cases hn1 : x.n = 1
      ·have NX := hd9 (P2.out (by unfold truthI; rw [if_neg hd0, if_neg (by omega)]))
       have hn1b : (x.n == 1) = true := by rw [hn1]; rfl
       clear P1 P2 P3
       have IR := hd9 (IR.out.keep BR.out)
       have c0x := cellOf KX.out (i := 0) rfl
       have c1x := cellOf KX.out (i := 1) rfl
       have c2x := cellOf KX.out (i := 2) rfl
       go_wp2_with (at_builtin; go_loud (refine wpList_appInt rfl _ _ rfl ((k : Int) + 1) (lgP l k) _ _ rfl rfl (IR.out.keep (below1 _ _)) (blk_new _ _ rfl) LN.out ?_))
       intro v' w3 hir
       have IN := hd9 (NX.out ▸ hir)
       clear hir
       go_wp2
       go_roundw
       case rel => exact ⟨k + 1, by omega, by go_num, IN.out⟩
       case measure => simp [intOf]; omega
      ·have NX := hd9 (P3.out (by unfold truthI; rw [if_neg hd0, if_pos (by omega)]))
       have hn1b : (x.n == 1) = false := beq_eq_false_iff_ne.2 hn1
       clear P1 P2 P3
       have IR := hd9 (IR.out.keep BR.out)
       have c0x := cellOf KX.out (i := 0) rfl
       have c1x := cellOf KX.out (i := 1) rfl
       have c2x := cellOf KX.out (i := 2) rfl
       have IN := hd9 (NX.out ▸ IR.out)
       go_wp2
       go_roundw
       case rel => exact ⟨k + 1, by omega, by go_num, IN.out⟩
       case measure => simp [intOf]; omega
    ·obtain rfl : k = m := by omega
     obtain ⟨k0, k1, k2, k3, k4, k5, k6, k7⟩ := vec8 KAr.out
     go_wp2
     go_ret2
     exact ⟨_, by rw [X2.out]; rfl, by rw [X1.out]; exact IR.out.wide BA.out⟩
end Go.Proofs.YteoalkjngkcheaaGreat
