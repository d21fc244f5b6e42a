/- The reference's l4Pick: elements of an atomic vector at positions within its length. -/
import Derived.Test.YtfbpbpbmnieieaaRows
import Derived.Test.YtfbpbpbmnieieaaMg3
import Derived.Test.YtfbpbpbmnieieaaMg1
import Derived.Maps.AppendAt
import Derived.WalkKit
import Derived.OwnWalk
import Derived.Deep.DeepCutAuto
import Derived.Lib.Hide
namespace Go.Proofs.Ytfbpbpbmnieieaa
open Go.RowKit
set_option maxRecDepth 100000
set_option linter.unusedVariables false

theorem pkT_succ {α : Type} {z : α} {l : List α} {idx : List Nat} {k : Nat} (h : l.length ≠ 0) (hk : k < idx.length) : pkL z l (idx.take (k + 1)) = pkL z l (idx.take k) ++ [l.getD (idx.getD k 0) z] := by
  rw [pkL_some h, pkL_some h, List.take_add_one, List.map_append]
  simp [List.getD_eq_getElem?_getD, hk]
theorem pkT_nil {α : Type} {z : α} {l : List α} (h : l.length = 0) (idx : List Nat) : pkL z l idx = [] := by
  rw [List.eq_nil_of_length_eq_zero h]; rfl
theorem pkT_full {α : Type} (z : α) (l : List α) (idx : List Nat) : pkL z l (idx.take idx.length) = pkL z l idx := by rw [List.take_length]
theorem pkT_zero {α : Type} (z : α) (l : List α) (idx : List Nat) : pkL z l (idx.take 0) = [] := by
  cases l with
  | nil => rfl
  | cons x l => rfl
theorem pkT_len {α : Type} (z : α) (l : List α) (idx : List Nat) (k : Nat) : (pkL z l (idx.take k)).length ≤ k := by
  have := pkL_len z l (idx.take k)
  rw [List.length_take] at this
  omega
theorem Und.keep {lo : Nat} {w : World} {d : Nat} {items : List It} {parts : List Vec} {names cls lev : List ByteArray} {vi vp vn vc vl : Value} {X : List Nat} {w' : World} (h : Und lo w d items parts names cls lev vi vp vn vc vl X) (hb : Below w.heap.size w w') : Und lo w' d items parts names cls lev vi vp vn vc vl X := h.below hb
theorem row_form {lo : Nat} {w : World} {el : TypeId} {size n : Nat} {v : Value} {xs : List Value} (h : w.ownsRow lo el size v n xs) : ∃ s c, v = .slice s n c := by
  obtain ⟨_, ⟨e, h0⟩ | ⟨g, cap, cur, e, _⟩⟩ := h
  · subst h0; exact ⟨_, _, e⟩
  · exact ⟨_, _, e⟩
theorem specCleanN (kk code env : Int) (ai ap an ac al : Option Addr) (ni ci np cp cn nc cc nl cl : Nat) (names : List ByteArray) (lo hi : Nat) (w : World) (hN : TextsAt lo hi w an names) (hhi : hi ≤ w.heap.size) (ln : names.length ≤ 1048576) :
    Calls Try.prog 54 #[.agg #[.int .i64 kk, .slice ai ni ci, .slice ap np cp, .slice an names.length cn, .slice ac nc cc, .slice al nl cl, .int .i64 code, .int .i64 env]] w fun e w' => Below w.heap.size w w' ∧ (((∃ i, i < names.length ∧ txtS names i ≠ ⟨#[]⟩) ∧ e = .returned (.agg #[.int .i64 kk, .slice ai ni ci, .slice ap np cp, .slice an names.length cn, .slice ac nc cc, .slice al nl cl, .int .i64 code, .int .i64 env])) ∨
      ((∀ i, i < names.length → txtS names i = ⟨#[]⟩) ∧ ∃ g, w.heap.size ≤ g ∧ e = .returned (.agg #[.int .i64 kk, .slice ai ni ci, .slice ap np cp, .slice (some ⟨g, 0, none⟩) 0 0, .slice ac nc cc, .slice al nl cl, .int .i64 code, .int .i64 env]))) := by
  have h := specClean kk code env (List.replicate ni noI) (List.replicate np noV) names (List.replicate nc ⟨#[]⟩) (List.replicate nl ⟨#[]⟩) ai ap an ac al ci cp cn cc cl lo hi w hN hhi ln
  simp only [List.length_replicate] at h
  exact h
theorem far_two {lo : Nat} {v : Value} {g b : Nat} {t t2 : TypeId} {C C2 : Array Value} {q : Nat × TypeId × Array Value} (h : ∀ k, v.ownBlock = some k → lo ≤ k) (hg : g < lo) (hb : b < lo) (hq : q ∈ [(g, t, C), (b, t2, C2)]) : ∀ k, v.ownBlock = some k → q.1 ≠ k := by
  intro k hk e
  have := h k hk
  simp only [List.mem_cons, List.not_mem_nil, or_false] at hq
  rcases hq with rfl | rfl <;> (simp only at e; omega)
set_option maxHeartbeats 8000000 in
theorem specPickA (d : Nat) (kk : Int) (items : List It) (parts : List Vec) (names cls levels : List ByteArray) (code env : Int) (ai ap an ac al xi : Option Addr) (ci cp cn cc cl xc lo hi B : Nat) (idx : List Nat) (w : World) (hI : ItemsAt lo hi w ai items) (hN : TextsAt lo hi w an names) (hC : TextsAt lo hi w ac cls) (hL : TextsAt lo hi w al levels) (hhi : hi ≤ w.heap.size)
    (li : items.length ≤ 1048576) (lp : parts.length = 0) (ln : names.length ≤ 1048576) (lc : cls.length ≤ 1048576) (ll : levels.length ≤ 1048576) (hs : IntsAt B w xi idx.length (fun i => ixF idx i + 1)) (hB : B ≤ w.heap.size) (hn : idx.length ≤ 1048576)
    (hk4 : ¬ kk = 4) (hk5 : ¬ kk = 5) (hin : ∀ i, i < idx.length → idx.getD i 0 < items.length) (hnm : names.length ≠ 0 → names.length = items.length) :
    Calls Try.prog 43 #[.agg #[.int .i64 kk, .slice ai items.length ci, .slice ap parts.length cp, .slice an names.length cn, .slice ac cls.length cc, .slice al levels.length cl, .int .i64 code, .int .i64 env], .slice xi idx.length xc] w (ResV (d + 1) (selV kk items parts names cls levels idx) w) := by
  have AI := Lib.hid (fun (k : Nat) (w1 : World) (hk : k < items.length) (hb : Below w.heap.size w w1) => (hI.below hb hhi).at_ hk)
  have AN := Lib.hid (fun (k : Nat) (w1 : World) (hk : k < names.length) (hb : Below w.heap.size w w1) => (show ∃ b off, an = some ⟨b, off, none⟩ ∧ b < hi ∧ w1.cell? ⟨b, off + k, none⟩ = some (.string (names.getD k ⟨#[]⟩)) from (by obtain ⟨b, off, e, _, h1, h2⟩ := (hN.below hb hhi) k (names.getD k ⟨#[]⟩) (by simp [List.getD_eq_getElem?_getD, hk]); exact ⟨b, off, e, h1, h2⟩)))
  have SA := Lib.hid hs
  have IN := Lib.hid hin
  have HC := Lib.hid (fun (w1 : World) (hb : Below w.heap.size w w1) => hC.below hb hhi)
  have HL := Lib.hid (fun (w1 : World) (hb : Below w.heap.size w w1) => hL.below hb hhi)
  have LE := Lib.hid (fun W => (by have h := specLen kk ai ap an ac al items.length ci parts.length cp names.length cn cls.length cc levels.length cl code env W li (by omega); rw [show lenV kk items.length parts.length = items.length by unfold lenV; rw [if_neg hk5]; omega] at h; exact h : Calls Try.prog 41 #[.agg #[.int .i64 kk, .slice ai items.length ci, .slice ap parts.length cp, .slice an names.length cn, .slice ac cls.length cc, .slice al levels.length cl, .int .i64 code, .int .i64 env]] W (fun e w' => e = .returned (.int .i64 (items.length : Nat)) ∧ Below W.heap.size W w')))
  have PI := Lib.hid (fun k (h : items.length ≠ 0) (hk : k < idx.length) => pkT_succ (z := noI) (l := items) h hk)
  have PN := Lib.hid (fun k (h : names.length ≠ 0) (hk : k < idx.length) => pkT_succ (z := ⟨#[]⟩) (l := names) h hk)
  have P0 := Lib.hid (fun (h : names.length = 0) k => (pkT_nil (z := ⟨#[]⟩) h (idx.take k) : pkL ⟨#[]⟩ names (idx.take k) = []))
  have EV := Lib.hid (show selV kk items parts names cls levels idx = .mk kk (pkL noI items (idx.take idx.length)) [] (clnN (pkL ⟨#[]⟩ names (idx.take idx.length))) (kpC levels cls) levels 0 0 by rw [pkT_full, pkT_full]; unfold selV; rw [pkT_nil (z := noV) lp])
  have LI := Lib.hid (pkT_len noI items idx)
  have LM := Lib.hid (pkT_len ⟨#[]⟩ names idx)
  have hk4b : (kk == 4) = false := beq_eq_false_iff_ne.2 hk4
  have EK := Lib.hid (fun (h : levels.length ≠ 0) => kpC_some (cls := cls) h)
  have EK0 := Lib.hid (fun (h : levels.length = 0) => (by rw [List.eq_nil_of_length_eq_zero h]; exact ⟨rfl, rfl⟩ : levels = [] ∧ kpC levels cls = []))
  have UST := Lib.hid (fun W => Und.start (w.heap.size + 1 + 1 + 1) W d)
  obtain ⟨V, hV⟩ : ∃ V, selV kk items parts names cls levels idx = V := ⟨_, rfl⟩
  rw [hV] at EV ⊢
  obtain ⟨m, hm⟩ : ∃ m, idx.length = m := ⟨_, rfl⟩
  rw [hm] at SA IN PI PN EV hn ⊢
  obtain ⟨n, hn'⟩ : ∃ n, items.length = n := ⟨_, rfl⟩
  rw [hn'] at AI IN LE PI li hnm ⊢
  obtain ⟨nn, hnn⟩ : ∃ n, names.length = n := ⟨_, rfl⟩
  rw [hnn] at AN LE PN P0 ln hnm ⊢
  have LP := Lib.hid lp
  clear hV hm hn' hnn hI hN hC hL hs hin hk4 hk5 lp
  go_enter Try.func43, Try.ntmps43
  go_upto_region 2 with (fail)
  obtain ⟨w1, hw1⟩ : ∃ W, ((w.alloc (.cells #[.int .i64 kk, .slice ai n ci, .slice ap parts.length cp, .slice an nn cn, .slice ac cls.length cc, .slice al levels.length cl, .int .i64 code, .int .i64 env] 31)).alloc (.cells #[.int .i64 0, .slice none 0 0, .slice none 0 0, .slice none 0 0, .slice none 0 0, .slice none 0 0, .int .i64 0, .int .i64 0] 31)).alloc (.cells #[.int .i64 kk, .slice none 0 0, .slice none 0 0, .slice none 0 0, .slice none 0 0, .slice none 0 0, .int .i64 0, .int .i64 0] 31) = W := ⟨_, rfl⟩
  have hsz : (w.alloc (.cells #[.int .i64 kk, .slice ai n ci, .slice ap parts.length cp, .slice an nn cn, .slice ac cls.length cc, .slice al levels.length cl, .int .i64 code, .int .i64 env] 31)).heap.size = w.heap.size + 1 := by simp
  have hsz2 : ((w.alloc (.cells #[.int .i64 kk, .slice ai n ci, .slice ap parts.length cp, .slice an nn cn, .slice ac cls.length cc, .slice al levels.length cl, .int .i64 code, .int .i64 env] 31)).alloc (.cells #[.int .i64 0, .slice none 0 0, .slice none 0 0, .slice none 0 0, .slice none 0 0, .slice none 0 0, .int .i64 0, .int .i64 0] 31)).heap.size = w.heap.size + 1 + 1 := by simp
  have hsz3 : w1.heap.size = w.heap.size + 1 + 1 + 1 := by rw [← hw1]; simp
  have BW := Lib.hid (show Below w.heap.size w w1 from hw1 ▸ ((below1 w _).alloc (by simp) _).alloc (by simp; omega) _)
  have KA := Lib.hid (show w1.heap[w.heap.size]? = some (.cells #[.int .i64 kk, .slice ai n ci, .slice ap parts.length cp, .slice an nn cn, .slice ac cls.length cc, .slice al levels.length cl, .int .i64 code, .int .i64 env] 31 (0, 0)) from hw1 ▸ blk_old (blk_old (blk_new w _ rfl)))
  have KR := Lib.hid (show w1.heap[w.heap.size + 1]? = some (.cells #[.int .i64 0, .slice none 0 0, .slice none 0 0, .slice none 0 0, .slice none 0 0, .slice none 0 0, .int .i64 0, .int .i64 0] 31 (0, 0)) from hw1 ▸ blk_old (hsz ▸ blk_new (w.alloc (.cells #[.int .i64 kk, .slice ai n ci, .slice ap parts.length cp, .slice an nn cn, .slice ac cls.length cc, .slice al levels.length cl, .int .i64 code, .int .i64 env] 31)) (.cells #[.int .i64 0, .slice none 0 0, .slice none 0 0, .slice none 0 0, .slice none 0 0, .slice none 0 0, .int .i64 0, .int .i64 0] 31) rfl))
  have KB := Lib.hid (show w1.heap[w.heap.size + 1 + 1]? = some (.cells #[.int .i64 kk, .slice none 0 0, .slice none 0 0, .slice none 0 0, .slice none 0 0, .slice none 0 0, .int .i64 0, .int .i64 0] 31 (0, 0)) from hw1 ▸ hsz2 ▸ blk_new ((w.alloc (.cells #[.int .i64 kk, .slice ai n ci, .slice ap parts.length cp, .slice an nn cn, .slice ac cls.length cc, .slice al levels.length cl, .int .i64 code, .int .i64 env] 31)).alloc (.cells #[.int .i64 0, .slice none 0 0, .slice none 0 0, .slice none 0 0, .slice none 0 0, .slice none 0 0, .int .i64 0, .int .i64 0] 31)) (.cells #[.int .i64 kk, .slice none 0 0, .slice none 0 0, .slice none 0 0, .slice none 0 0, .slice none 0 0, .int .i64 0, .int .i64 0] 31) rfl)
  rw [hw1]
  clear hw1 hsz hsz2
  have hrb : w.heap.size + 1 < w.heap.size + 1 + 1 := Nat.lt_succ_self _
  have hbw : w.heap.size < w.heap.size + 1 + 1 := by omega
  obtain ⟨b, hb⟩ : ∃ b, w.heap.size + 1 + 1 = b := ⟨_, rfl⟩
  rw [hb] at KB UST hsz3 hrb hbw ⊢
  clear hb
  have SL : b + 1 ≤ w1.heap.size := Nat.le_of_eq hsz3.symm
  clear hsz3
  by_cases hl : levels.length = 0
  · have hl0 : ((levels.length : Nat) : Int) ≤ 0 := by omega
    have U := Lib.hid (show Und (b + 1) w1 d [] [] [] (kpC levels cls) levels _ _ _ _ _ [] from by obtain ⟨e1, e2⟩ := EK0.out hl; rw [e2, e1]; exact UST.out w1)
    clear hl
    obtain ⟨a0, a1, a2, a3, a4, a5, a6, a7⟩ := vec8 KA.out
    go_wp2
    clear a0 a1 a2 a3 a4 a5 a6 a7 hl0
    obtain ⟨dv, hdv⟩ : ∃ dv, decide (0 < levels.length) = dv := ⟨_, rfl⟩
    try rw [hdv]
    clear hdv
    have W0 := Lib.hid (show w.heap.size ≤ b + 1 by omega)
    have B0' := Lib.hid (show w.heap.size ≤ b by omega)
    go_loopw [6] (fun i wr => ∃ (k : Nat) (vi vn : Value), k ≤ m ∧ i = .int .i64 k ∧ Below w.heap.size w wr ∧ wr.heap[w.heap.size]? = some (.cells #[.int .i64 kk, .slice ai n ci, .slice ap parts.length cp, .slice an nn cn, .slice ac cls.length cc, .slice al levels.length cl, .int .i64 code, .int .i64 env] 31 (0, 0)) ∧ wr.heap[w.heap.size + 1]? = some (.cells #[.int .i64 0, .slice none 0 0, .slice none 0 0, .slice none 0 0, .slice none 0 0, .slice none 0 0, .int .i64 0, .int .i64 0] 31 (0, 0)) ∧ wr.heap[b]? = some (.cells #[.int .i64 kk, vi, .slice none 0 0, vn, .slice none 0 0, .slice none 0 0, .int .i64 0, .int .i64 0] 31 (0, 0)) ∧ Und (b + 1) wr d (pkL noI items (idx.take k)) [] (pkL ⟨#[]⟩ names (idx.take k)) (kpC levels cls) levels vi (.slice none 0 0) vn (.slice none 0 0) (.slice none 0 0) []) (fun i _ => m - (intOf i).toNat)
    case atStart => exact ⟨0, .slice none 0 0, .slice none 0 0, Nat.zero_le _, rfl, BW.out, KA.out, KR.out, KB.out, by rw [pkT_zero, pkT_zero]; exact U.out⟩
    case round =>
      obtain ⟨k, vi, vn, hk, rfl, hbw', hka, hkr, hkb, hu⟩ := hrel
      have BW := Lib.hid hbw'
      have KA := Lib.hid hka
      have KR := Lib.hid hkr
      have KB := Lib.hid hkb
      have U := Lib.hid hu
      clear hbw' hka hkr hkb hu
      by_cases hlt : k < m
      · obtain ⟨bi, oi, rfl, hbi, cx⟩ := (SA.out.below (BW.out.mono hB)) k hlt
        have hq := IN.out k hlt
        have NXI := Lib.hid (PI.out k (by omega) hlt)
        replace cx := (show wr.cell? ⟨bi, oi + k, none⟩ = some (.int .i64 (((idx.getD k 0 : Nat) : Int) + 1)) from cx)
        have PNk := Lib.hid (fun h => PN.out k h hlt)
        obtain ⟨q, hq'⟩ : ∃ q, idx.getD k 0 = q := ⟨_, rfl⟩
        rw [hq'] at cx hq NXI PNk
        clear hq'
        have IY := Lib.hid (fun W => inYes (q : Int) 0 ((n : Int) - 1) W (by omega) (by omega))
        obtain ⟨ba, off, rfl, hbB, c0, c1, c2'⟩ := AI.out q w hq (Below.refl _ _)
        have c2 : w.cell? ⟨ba, off + q * 3 + 2, none⟩ = some (.string (items.getD q noI).t) := c2'
        have hbaw : ba < w.heap.size := Nat.lt_of_lt_of_le hbB hhi
        obtain ⟨x, hx⟩ : ∃ x, items.getD q noI = x := ⟨_, rfl⟩
        rw [hx] at c0 c1 c2 NXI
        clear hx c2'
        obtain ⟨a0, a1, a2, a3, a4, a5, a6, a7⟩ := vec8 KA.out
        go_wp2_with fail
        with_reducible refine (LE.out _).mono ?_
        rintro e wl ⟨rfl, b'⟩
        have BW := Lib.hid (below_then BW.out b')
        have KA := Lib.hid (blk_below b' KA.out)
        have KR := Lib.hid (blk_below b' KR.out)
        have KB := Lib.hid (blk_below b' KB.out)
        have U := Lib.hid (U.out.below b')
        clear b' a0 a1 a2 a3 a4 a5 a6 a7
        go_wp2_with fail
        with_reducible refine (IY.out _).mono ?_
        rintro e w' ⟨rfl, rfl⟩
        obtain ⟨a0, a1, a2, a3, a4, a5, a6, a7⟩ := vec8 KA.out
        have hbl := (Array.getElem?_eq_some_iff.1 KB.out).1
        have hKR := (Array.getElem?_eq_some_iff.1 KR.out).1
        have KRW := KR
        have UW := U
        by_cases h0 : nn = 0
        · have e0 := P0.out h0 (k + 1)
          have e1 := P0.out h0 k
          have hn0 : (nn : Int) ≤ 0 := by omega
          have H0 := Lib.hid h0
          clear h0
          have LN := Lib.hid (show (pkL noI items (idx.take k)).length ≤ 1048576 by have := LI.out k; omega)
          have FAR := Lib.hid (fun g hg => (U.out.i.lt g hg).1)
          have H := Lib.hid (show HeldC w wl ([(w.heap.size, 31, #[.int .i64 kk, .slice (some ⟨ba, off, none⟩) n ci, .slice ap parts.length cp, .slice an nn cn, .slice ac cls.length cc, .slice al levels.length cl, .int .i64 code, .int .i64 env]), (b, 31, #[.int .i64 kk, vi, .slice none 0 0, vn, .slice none 0 0, .slice none 0 0, .int .i64 0, .int .i64 0])]) from heldC_cons (heldC_cons ⟨BW.out, (fun _ h => by cases h)⟩ KB.out) KA.out)
          go_upto_region 15 with (fail)
          clear a0 a1 a2 a3 a4 a5 a6 a7
          refine run_region (ops := (opsOf Try.f43 15)) (S := fun w' => HeldC w w' ([(w.heap.size, 31, #[.int .i64 kk, .slice (some ⟨ba, off, none⟩) n ci, .slice ap parts.length cp, .slice an nn cn, .slice ac cls.length cc, .slice al levels.length cl, .int .i64 code, .int .i64 env]), (b, 31, #[.int .i64 kk, vi, (.slice none 0 0), vn, .slice none 0 0, .slice none 0 0, .int .i64 0, .int .i64 0])])) [(0, true), (1, true), (2, true), (3, true), (4, true), (5, true), (6, true), (7, false), (8, false), (9, true), (10, false)] (by kernel_rfl) (by kernel_rfl) (by kernel_rfl) (by kernel_rfl) (by kernel_rfl) (fun _ _ _ _ _ h => h) (heldC_drew H.out) ?_
          have H := Lib.hid (heldC_drew H.out)
          have U := Lib.hid (U.out.keep (below_drew' (Below.refl _ _)))
          refine runC_partV (b := b) (by kernel_rfl) (show opAt (opsOf Try.f43 15) 0 = some (some 69, .fieldAddr 31 (.tmp 5) 1, none) from by kernel_rfl) (by kernel_rfl) (by kernel_rfl) (by kernel_rfl) ?_
          refine runC_cell (b := b) (j := 1) (v := vi) load_its (show opAt (opsOf Try.f43 15) 1 = some (some 70, .load 28 (.tmp 69), none) from by kernel_rfl) (by kernel_rfl) (by kernel_rfl) (by kernel_rfl) (List.Mem.tail _ (List.Mem.head _)) rfl ?_
          refine runC_partV (b := w.heap.size) (by kernel_rfl) (show opAt (opsOf Try.f43 15) 2 = some (some 71, .fieldAddr 31 (.tmp 2) 1, none) from by kernel_rfl) (by kernel_rfl) (by kernel_rfl) (by kernel_rfl) ?_
          refine runC_cell (b := w.heap.size) (j := 1) (v := .slice (some ⟨ba, off, none⟩) n ci) load_its (show opAt (opsOf Try.f43 15) 3 = some (some 72, .load 28 (.tmp 71), none) from by kernel_rfl) (by kernel_rfl) (by kernel_rfl) (by kernel_rfl) (List.Mem.head _) rfl ?_
          refine run_mov (v := .int .i64 ((q : Int))) (show opAt (opsOf Try.f43 15) 4 = some (some 73, .move (.tmp 7), none) from by kernel_rfl) (by kernel_rfl) (by kernel_rfl) (by kernel_rfl) ?_
          refine run_idx3 (n := n) (c := ci) (b := ba) (off := off) (k := q) (show opAt (opsOf Try.f43 15) 5 = some (some 74, .indexAddr 28 (.tmp 72) (.tmp 73), none) from by kernel_rfl) (by kernel_rfl) (by kernel_rfl) (by kernel_rfl) (by kernel_rfl) hq ?_
          refine runC_oldI (b := ba) (j := off + q * 3) (z := x) (show opAt (opsOf Try.f43 15) 6 = some (some 75, .load 67 (.tmp 74), none) from by kernel_rfl) (by kernel_rfl) (by kernel_rfl) (by kernel_rfl) hbaw c0 c1 c2 ?_
          refine tail_its3 x (show opAt (opsOf Try.f43 15) 7 = some (some 76, .buildSlice 28 1 #[(0, (.tmp 75))], none) from by kernel_rfl) (by kernel_rfl) (by kernel_rfl) (show opAt (opsOf Try.f43 15) 8 = some (some 77, .call { callee := .builtin .append, args := [(.tmp 70), (.tmp 76)].toArray, argTypes := [28, 28].toArray }, none) from by kernel_rfl) (by kernel_rfl) (fun _ => by kernel_rfl) (show opAt (opsOf Try.f43 15) 9 = some (some 78, .fieldAddr 31 (.tmp 5) 1, none) from by kernel_rfl) (by kernel_rfl) (by kernel_rfl) (fun _ _ => by kernel_rfl) (show opAt (opsOf Try.f43 15) 10 = some (none, .store 28 (.tmp 78) (.tmp 77), none) from by kernel_rfl) (by kernel_rfl) (by kernel_rfl) H.out U.out.i LN.out (Nat.succ_le_of_lt (Array.getElem?_eq_some_iff.1 (heldC_at H.out (List.Mem.tail _ (List.Mem.head _)))).1) W0.out (List.Mem.tail _ (List.Mem.head _)) rfl (Nat.lt_succ_self _) B0'.out (fun q hq => far_two FAR.out (Nat.lt_succ_of_lt hbw) (Nat.lt_succ_self _) hq) ?_
          rintro v' w2 ⟨sa, sn, sc2, rfl⟩ hK hO hB hZ hR hG
          simp only [putAll, Act.put, List.setIfInBounds_toArray, List.set_cons_zero, List.set_cons_succ]
          have KA1 := heldC_at H.out (List.Mem.head _)
          have KR1 := heldC_at H.out (List.Mem.head _)
          have hwa := (Array.getElem?_eq_some_iff.1 KA1).1
          have U := Lib.hid (U.out.setI hO hR (fun g hlo hg hne => hG g hg (by omega) hne) hZ)
          have KA := Lib.hid (show w2.heap[w.heap.size]? = some (.cells #[.int .i64 kk, .slice (some ⟨ba, off, none⟩) n ci, .slice ap parts.length cp, .slice an nn cn, .slice ac cls.length cc, .slice al levels.length cl, .int .i64 code, .int .i64 env] 31 (0, 0)) from (hG _ hwa (by omega) (fun e => by have := FAR.out _ e; omega)).trans KA1)
          have KB := Lib.hid (show w2.heap[b]? = some (.cells #[.int .i64 kk, .slice sa sn sc2, .slice none 0 0, vn, .slice none 0 0, .slice none 0 0, .int .i64 0, .int .i64 0] 31 (0, 0)) from hK)
          have BW := Lib.hid hB
          have KR := Lib.hid (show w2.heap[w.heap.size + 1]? = some (.cells #[.int .i64 0, .slice none 0 0, .slice none 0 0, .slice none 0 0, .slice none 0 0, .slice none 0 0, .int .i64 0, .int .i64 0] 31 (0, 0)) from (hG _ hKR (by omega) (fun e => by have := FAR.out _ e; omega)).trans KRW.out)
          clear hK hO hB hR hG hZ H FAR LN KA1 KR1 hwa
          obtain ⟨a0, a1, a2, a3, a4, a5, a6, a7⟩ := vec8 KA.out
          go_wp2
          go_roundw
          case rel => first | exact ⟨k + 1, _, vn, by omega, by go_num, BW.out, KA.out, KR.out, KB.out, by rw [NXI.out, e0]; rw [e1] at U; exact U.out⟩ | ((repeat apply Exists.intro); exact ⟨⟨k + 1, _, vn, by omega, by go_num, BW.out, KA.out, KR.out, KB.out, by rw [NXI.out, e0]; rw [e1] at U; exact U.out⟩, rfl⟩)
          case measure => simp [intOf]; omega
        · have hqn : q < nn := by have := hnm h0; omega
          have hn0 : 0 < (nn : Int) := by omega
          have NXN := Lib.hid (PNk.out h0)
          obtain ⟨bn, offn, rfl, hbN, cn0⟩ := AN.out q w hqn (Below.refl _ _)
          have hbnw : bn < w.heap.size := Nat.lt_of_lt_of_le hbN hhi
          obtain ⟨s, hs⟩ : ∃ s, names.getD q ⟨#[]⟩ = s := ⟨_, rfl⟩
          rw [hs] at cn0 NXN
          clear hs
          have LN := Lib.hid (show (pkL noI items (idx.take k)).length ≤ 1048576 by have := LI.out k; omega)
          have FAR := Lib.hid (fun g hg => (U.out.i.lt g hg).1)
          have H := Lib.hid (show HeldC w wl ([(w.heap.size, 31, #[.int .i64 kk, .slice (some ⟨ba, off, none⟩) n ci, .slice ap parts.length cp, .slice (some ⟨bn, offn, none⟩) nn cn, .slice ac cls.length cc, .slice al levels.length cl, .int .i64 code, .int .i64 env]), (b, 31, #[.int .i64 kk, vi, .slice none 0 0, vn, .slice none 0 0, .slice none 0 0, .int .i64 0, .int .i64 0])]) from heldC_cons (heldC_cons ⟨BW.out, (fun _ h => by cases h)⟩ KB.out) KA.out)
          go_upto_region 15 with (fail)
          clear a0 a1 a2 a3 a4 a5 a6 a7
          refine run_region (ops := (opsOf Try.f43 15)) (S := fun w' => HeldC w w' ([(w.heap.size, 31, #[.int .i64 kk, .slice (some ⟨ba, off, none⟩) n ci, .slice ap parts.length cp, .slice (some ⟨bn, offn, none⟩) nn cn, .slice ac cls.length cc, .slice al levels.length cl, .int .i64 code, .int .i64 env]), (b, 31, #[.int .i64 kk, vi, (.slice none 0 0), vn, .slice none 0 0, .slice none 0 0, .int .i64 0, .int .i64 0])])) [(0, true), (1, true), (2, true), (3, true), (4, true), (5, true), (6, true), (7, false), (8, false), (9, true), (10, false)] (by kernel_rfl) (by kernel_rfl) (by kernel_rfl) (by kernel_rfl) (by kernel_rfl) (fun _ _ _ _ _ h => h) (heldC_drew H.out) ?_
          have H := Lib.hid (heldC_drew H.out)
          have U := Lib.hid (U.out.keep (below_drew' (Below.refl _ _)))
          refine runC_partV (b := b) (by kernel_rfl) (show opAt (opsOf Try.f43 15) 0 = some (some 69, .fieldAddr 31 (.tmp 5) 1, none) from by kernel_rfl) (by kernel_rfl) (by kernel_rfl) (by kernel_rfl) ?_
          refine runC_cell (b := b) (j := 1) (v := vi) load_its (show opAt (opsOf Try.f43 15) 1 = some (some 70, .load 28 (.tmp 69), none) from by kernel_rfl) (by kernel_rfl) (by kernel_rfl) (by kernel_rfl) (List.Mem.tail _ (List.Mem.head _)) rfl ?_
          refine runC_partV (b := w.heap.size) (by kernel_rfl) (show opAt (opsOf Try.f43 15) 2 = some (some 71, .fieldAddr 31 (.tmp 2) 1, none) from by kernel_rfl) (by kernel_rfl) (by kernel_rfl) (by kernel_rfl) ?_
          refine runC_cell (b := w.heap.size) (j := 1) (v := .slice (some ⟨ba, off, none⟩) n ci) load_its (show opAt (opsOf Try.f43 15) 3 = some (some 72, .load 28 (.tmp 71), none) from by kernel_rfl) (by kernel_rfl) (by kernel_rfl) (by kernel_rfl) (List.Mem.head _) rfl ?_
          refine run_mov (v := .int .i64 ((q : Int))) (show opAt (opsOf Try.f43 15) 4 = some (some 73, .move (.tmp 7), none) from by kernel_rfl) (by kernel_rfl) (by kernel_rfl) (by kernel_rfl) ?_
          refine run_idx3 (n := n) (c := ci) (b := ba) (off := off) (k := q) (show opAt (opsOf Try.f43 15) 5 = some (some 74, .indexAddr 28 (.tmp 72) (.tmp 73), none) from by kernel_rfl) (by kernel_rfl) (by kernel_rfl) (by kernel_rfl) (by kernel_rfl) hq ?_
          refine runC_oldI (b := ba) (j := off + q * 3) (z := x) (show opAt (opsOf Try.f43 15) 6 = some (some 75, .load 67 (.tmp 74), none) from by kernel_rfl) (by kernel_rfl) (by kernel_rfl) (by kernel_rfl) hbaw c0 c1 c2 ?_
          refine tail_its3 x (show opAt (opsOf Try.f43 15) 7 = some (some 76, .buildSlice 28 1 #[(0, (.tmp 75))], none) from by kernel_rfl) (by kernel_rfl) (by kernel_rfl) (show opAt (opsOf Try.f43 15) 8 = some (some 77, .call { callee := .builtin .append, args := [(.tmp 70), (.tmp 76)].toArray, argTypes := [28, 28].toArray }, none) from by kernel_rfl) (by kernel_rfl) (fun _ => by kernel_rfl) (show opAt (opsOf Try.f43 15) 9 = some (some 78, .fieldAddr 31 (.tmp 5) 1, none) from by kernel_rfl) (by kernel_rfl) (by kernel_rfl) (fun _ _ => by kernel_rfl) (show opAt (opsOf Try.f43 15) 10 = some (none, .store 28 (.tmp 78) (.tmp 77), none) from by kernel_rfl) (by kernel_rfl) (by kernel_rfl) H.out U.out.i LN.out (Nat.succ_le_of_lt (Array.getElem?_eq_some_iff.1 (heldC_at H.out (List.Mem.tail _ (List.Mem.head _)))).1) W0.out (List.Mem.tail _ (List.Mem.head _)) rfl (Nat.lt_succ_self _) B0'.out (fun q hq => far_two FAR.out (Nat.lt_succ_of_lt hbw) (Nat.lt_succ_self _) hq) ?_
          rintro v' w2 ⟨sa, sn, sc2, rfl⟩ hK hO hB hZ hR hG
          simp only [putAll, Act.put, List.setIfInBounds_toArray, List.set_cons_zero, List.set_cons_succ]
          have KA1 := heldC_at H.out (List.Mem.head _)
          have KR1 := heldC_at H.out (List.Mem.head _)
          have hwa := (Array.getElem?_eq_some_iff.1 KA1).1
          have U := Lib.hid (U.out.setI hO hR (fun g hlo hg hne => hG g hg (by omega) hne) hZ)
          have KA := Lib.hid (show w2.heap[w.heap.size]? = some (.cells #[.int .i64 kk, .slice (some ⟨ba, off, none⟩) n ci, .slice ap parts.length cp, .slice (some ⟨bn, offn, none⟩) nn cn, .slice ac cls.length cc, .slice al levels.length cl, .int .i64 code, .int .i64 env] 31 (0, 0)) from (hG _ hwa (by omega) (fun e => by have := FAR.out _ e; omega)).trans KA1)
          have KB := Lib.hid (show w2.heap[b]? = some (.cells #[.int .i64 kk, .slice sa sn sc2, .slice none 0 0, vn, .slice none 0 0, .slice none 0 0, .int .i64 0, .int .i64 0] 31 (0, 0)) from hK)
          have BW := Lib.hid hB
          have KR := Lib.hid (show w2.heap[w.heap.size + 1]? = some (.cells #[.int .i64 0, .slice none 0 0, .slice none 0 0, .slice none 0 0, .slice none 0 0, .slice none 0 0, .int .i64 0, .int .i64 0] 31 (0, 0)) from (hG _ hKR (by omega) (fun e => by have := FAR.out _ e; omega)).trans KRW.out)
          clear hK hO hB hR hG hZ H FAR LN KA1 KR1 hwa
          obtain ⟨a0, a1, a2, a3, a4, a5, a6, a7⟩ := vec8 KA.out
          have hKR := (Array.getElem?_eq_some_iff.1 KR.out).1
          have KRW := KR
          have LN := Lib.hid (show (pkL ⟨#[]⟩ names (idx.take k)).length ≤ 1048576 by have := LM.out k; omega)
          have FAR := Lib.hid (fun g hg => (U.out.n.lt g hg).1)
          have H := Lib.hid (show HeldC w w2 ([(w.heap.size, 31, #[.int .i64 kk, .slice (some ⟨ba, off, none⟩) n ci, .slice ap parts.length cp, .slice (some ⟨bn, offn, none⟩) nn cn, .slice ac cls.length cc, .slice al levels.length cl, .int .i64 code, .int .i64 env]), (b, 31, #[.int .i64 kk, .slice sa sn sc2, .slice none 0 0, vn, .slice none 0 0, .slice none 0 0, .int .i64 0, .int .i64 0])]) from heldC_cons (heldC_cons ⟨BW.out, (fun _ h => by cases h)⟩ KB.out) KA.out)
          go_upto_region 18 with (fail)
          clear a0 a1 a2 a3 a4 a5 a6 a7
          refine run_region (ops := (opsOf Try.f43 18)) (S := fun w' => HeldC w w' ([(w.heap.size, 31, #[.int .i64 kk, .slice (some ⟨ba, off, none⟩) n ci, .slice ap parts.length cp, .slice (some ⟨bn, offn, none⟩) nn cn, .slice ac cls.length cc, .slice al levels.length cl, .int .i64 code, .int .i64 env]), (b, 31, #[.int .i64 kk, (.slice sa sn sc2), (.slice none 0 0), vn, .slice none 0 0, .slice none 0 0, .int .i64 0, .int .i64 0])])) [(0, true), (1, true), (2, true), (3, true), (4, true), (5, true), (6, true), (7, false), (8, false), (9, true), (10, false)] (by kernel_rfl) (by kernel_rfl) (by kernel_rfl) (by kernel_rfl) (by kernel_rfl) (fun _ _ _ _ _ h => h) (heldC_drew H.out) ?_
          have H := Lib.hid (heldC_drew H.out)
          have U := Lib.hid (U.out.keep (below_drew' (Below.refl _ _)))
          refine runC_partV (b := b) (by kernel_rfl) (show opAt (opsOf Try.f43 18) 0 = some (some 92, .fieldAddr 31 (.tmp 5) 3, none) from by kernel_rfl) (by kernel_rfl) (by kernel_rfl) (by kernel_rfl) ?_
          refine runC_cell (b := b) (j := 3) (v := vn) load_strs (show opAt (opsOf Try.f43 18) 1 = some (some 93, .load 24 (.tmp 92), none) from by kernel_rfl) (by kernel_rfl) (by kernel_rfl) (by kernel_rfl) (List.Mem.tail _ (List.Mem.head _)) rfl ?_
          refine runC_partV (b := w.heap.size) (by kernel_rfl) (show opAt (opsOf Try.f43 18) 2 = some (some 94, .fieldAddr 31 (.tmp 2) 3, none) from by kernel_rfl) (by kernel_rfl) (by kernel_rfl) (by kernel_rfl) ?_
          refine runC_cell (b := w.heap.size) (j := 3) (v := .slice (some ⟨bn, offn, none⟩) nn cn) load_strs (show opAt (opsOf Try.f43 18) 3 = some (some 95, .load 24 (.tmp 94), none) from by kernel_rfl) (by kernel_rfl) (by kernel_rfl) (by kernel_rfl) (List.Mem.head _) rfl ?_
          refine run_mov (v := .int .i64 ((q : Int))) (show opAt (opsOf Try.f43 18) 4 = some (some 96, .move (.tmp 7), none) from by kernel_rfl) (by kernel_rfl) (by kernel_rfl) (by kernel_rfl) ?_
          refine run_idx1 (n := nn) (c := cn) (b := bn) (off := offn) (k := q) (show opAt (opsOf Try.f43 18) 5 = some (some 97, .indexAddr 24 (.tmp 95) (.tmp 96), none) from by kernel_rfl) (by kernel_rfl) (by kernel_rfl) (by kernel_rfl) (by kernel_rfl) hqn Try.underlying24 (by kernel_rfl) infoStr ?_
          refine runC_old (b := bn) (j := offn + q) (v := .string s) load_text (show opAt (opsOf Try.f43 18) 6 = some (some 98, .load 9 (.tmp 97), none) from by kernel_rfl) (by kernel_rfl) (by kernel_rfl) (by kernel_rfl) hbnw cn0 ?_
          refine tail_txs3 s (show opAt (opsOf Try.f43 18) 7 = some (some 99, .buildSlice 24 1 #[(0, (.tmp 98))], none) from by kernel_rfl) (by kernel_rfl) (by kernel_rfl) (show opAt (opsOf Try.f43 18) 8 = some (some 100, .call { callee := .builtin .append, args := [(.tmp 93), (.tmp 99)].toArray, argTypes := [24, 24].toArray }, none) from by kernel_rfl) (by kernel_rfl) (fun _ => by kernel_rfl) (show opAt (opsOf Try.f43 18) 9 = some (some 101, .fieldAddr 31 (.tmp 5) 3, none) from by kernel_rfl) (by kernel_rfl) (by kernel_rfl) (fun _ _ => by kernel_rfl) (show opAt (opsOf Try.f43 18) 10 = some (none, .store 24 (.tmp 101) (.tmp 100), none) from by kernel_rfl) (by kernel_rfl) (by kernel_rfl) H.out U.out.n LN.out (Nat.succ_le_of_lt (Array.getElem?_eq_some_iff.1 (heldC_at H.out (List.Mem.tail _ (List.Mem.head _)))).1) W0.out (List.Mem.tail _ (List.Mem.head _)) rfl (Nat.lt_succ_self _) B0'.out (fun q hq => far_two FAR.out (Nat.lt_succ_of_lt hbw) (Nat.lt_succ_self _) hq) ?_
          rintro v' w3 ⟨sa3, sn3, sc3, rfl⟩ hK hO hB hZ hR hG
          simp only [putAll, Act.put, List.setIfInBounds_toArray, List.set_cons_zero, List.set_cons_succ]
          have KA1 := heldC_at H.out (List.Mem.head _)
          have KR1 := heldC_at H.out (List.Mem.head _)
          have hwa := (Array.getElem?_eq_some_iff.1 KA1).1
          have U := Lib.hid (U.out.setN hO hR (fun g hlo hg hne => hG g hg (by omega) hne) hZ)
          have KA := Lib.hid (show w3.heap[w.heap.size]? = some (.cells #[.int .i64 kk, .slice (some ⟨ba, off, none⟩) n ci, .slice ap parts.length cp, .slice (some ⟨bn, offn, none⟩) nn cn, .slice ac cls.length cc, .slice al levels.length cl, .int .i64 code, .int .i64 env] 31 (0, 0)) from (hG _ hwa (by omega) (fun e => by have := FAR.out _ e; omega)).trans KA1)
          have KB := Lib.hid (show w3.heap[b]? = some (.cells #[.int .i64 kk, .slice sa sn sc2, .slice none 0 0, .slice sa3 sn3 sc3, .slice none 0 0, .slice none 0 0, .int .i64 0, .int .i64 0] 31 (0, 0)) from hK)
          have BW := Lib.hid hB
          have KR := Lib.hid (show w3.heap[w.heap.size + 1]? = some (.cells #[.int .i64 0, .slice none 0 0, .slice none 0 0, .slice none 0 0, .slice none 0 0, .slice none 0 0, .int .i64 0, .int .i64 0] 31 (0, 0)) from (hG _ hKR (by omega) (fun e => by have := FAR.out _ e; omega)).trans KRW.out)
          clear hK hO hB hR hG hZ H FAR LN KA1 KR1 hwa
          go_wp2
          go_roundw
          case rel => first | exact ⟨k + 1, _, _, by omega, by go_num, BW.out, KA.out, KR.out, KB.out, by rw [NXI.out, NXN.out]; exact U.out⟩ | ((repeat apply Exists.intro); exact ⟨⟨k + 1, _, _, by omega, by go_num, BW.out, KA.out, KR.out, KB.out, by rw [NXI.out, NXN.out]; exact U.out⟩, rfl⟩)
          case measure => simp [intOf]; omega
      · obtain rfl : k = m := by omega
        obtain ⟨si, qi, rfl⟩ := row_form U.out.i
        obtain ⟨sn, qn, Fn, rfl, hot, _, hrt, _⟩ := txs_of_row U.out.n
        have CLN := Lib.hid (fun (W : World) (hb : Below wr.heap.size wr W) => specCleanN kk 0 0 si none sn none none (pkL noI items (idx.take k)).length qi 0 0 qn 0 0 0 0 (pkL ⟨#[]⟩ names (idx.take k)) (b + 1) wr.heap.size W ((hot.at_ hrt).below hb (Nat.le_refl _)) hb.size (Nat.le_trans (LM.out k) hn))
        clear hot hrt
        obtain ⟨k0, k1, k2, k3, k4, k5, k6, k7⟩ := vec8 KB.out
        have hKR := (Array.getElem?_eq_some_iff.1 KR.out).1
        go_wp2_with fail
        refine (CLN.out _ (Below.refl _ _)).mono ?_
        rintro e w5 ⟨b', hor⟩
        have BW := Lib.hid (below_then BW.out b')
        have KR := Lib.hid (blk_below b' KR.out)
        have O := Lib.hid ((U.out.below b').own kk)
        have hL1 : w.heap.size + 1 < b + 1 := by omega
        clear b' k0 k1 k2 k3 k4 k5 k6 k7
        obtain ⟨z0, z1, z2, z3, z4, z5, z6, z7⟩ := vec8 KR.out
        obtain ⟨f0, f1, f2, f3, f4, f5, f6, f7⟩ := free8 KR.out
        rcases hor with ⟨hex, rfl⟩ | ⟨hem, g, hg, rfl⟩
        · have EN := Lib.hid (clnN_yes (l := pkL ⟨#[]⟩ names (idx.take k)) (by obtain ⟨i, h1, h2⟩ := hex; exact ⟨i, h1, fun h => h2 (empty_of_size h)⟩))
          rw [EN.out] at EV
          rw [← EV.out] at O
          clear EV EN hex
          go_wp2
          exact vec_end rfl rfl rfl KR.out ⟨_, rfl, (O.out.put8 hL1 _ _ _ _ _ _ _ _).wide (by omega) (by rw [put8_size]; exact Nat.le_refl _), put8_below BW.out (Nat.le_succ _)⟩
        · have EN := Lib.hid (clnN_no (l := pkL ⟨#[]⟩ names (idx.take k)) (fun ⟨i, h1, h2⟩ => h2 (show (txtS _ i).size = 0 by rw [hem i h1]; rfl)))
          rw [EN.out] at EV
          have O := Lib.hid (O.out.noNames (some ⟨g, 0, none⟩) 0)
          rw [← EV.out] at O
          clear EV EN hem hg
          go_wp2
          exact vec_end rfl rfl rfl KR.out ⟨_, rfl, (O.out.put8 hL1 _ _ _ _ _ _ _ _).wide (by omega) (by rw [put8_size]; exact Nat.le_refl _), put8_below BW.out (Nat.le_succ _)⟩
  · have hl0 : 0 < ((levels.length : Nat) : Int) := by omega
    have U := Lib.hid (UST.out w1)
    have EKL := Lib.hid (EK.out hl)
    clear hl
    obtain ⟨a0, a1, a2, a3, a4, a5, a6, a7⟩ := vec8 KA.out
    have hltA := (Array.getElem?_eq_some_iff.1 KA.out).1
    obtain ⟨w2, hw2⟩ : ∃ W, w1.alloc (.cells #[] 9) = W := ⟨_, rfl⟩
    have B12 := Lib.hid (show Below w1.heap.size w1 w2 from hw2 ▸ below1 w1 _)
    have KS := Lib.hid (show w2.heap[w1.heap.size]? = some (.cells #[] 9 (0, 0)) from hw2 ▸ blk_new w1 _ rfl)
    have BW2 := Lib.hid (below_then BW.out B12.out)
    have EW := Lib.hid hw2
    clear hw2
    go_wp2_with (at_builtin; go_loud (rw [EW.out]; refine wpList_copyTz (w0 := w1) rfl _ _ rfl _ rfl (.inr ⟨w1.heap.size, Nat.le_refl _, rfl, KS.out⟩) B12.out ac cc cls lo hi rfl (HC.out _ BW2.out) lc ?_))
    intro v' w3 tz
    obtain ⟨sc, nc, qc, rfl⟩ := tz.form
    have U := Lib.hid (U.out.setC (row_lo tz.row SL) (moved_new tz.row) (fun g _ hg _ => tz.below.block g hg) tz.below.size)
    have BW := Lib.hid (below_then BW.out tz.below)
    have KA := Lib.hid (blk_below tz.below KA.out)
    have KB := Lib.hid (blk_below tz.below KB.out)
    have KR := Lib.hid (blk_below tz.below KR.out)
    have SL := Nat.le_trans SL tz.below.size
    clear tz a0 a1 a2 a3 a4 a5 a6 a7 hltA
    obtain ⟨a0, a1, a2, a3, a4, a5, a6, a7⟩ := vec8 KA.out
    obtain ⟨k0, k1, k2, k3, k4, k5, k6, k7⟩ := vec8 KB.out
    obtain ⟨g0, g1, g2, g3, g4, g5, g6, g7⟩ := free8 KB.out
    have hbb := (Array.getElem?_eq_some_iff.1 KB.out).1
    go_upto_region 4 with (fail)
    clear a0 a1 a2 a3 a4 a5 a6 a7 k0 k1 k2 k3 k4 k5 k6 k7 g0 g1 g2 g3 g4 g5 g6 g7 hbb
    obtain ⟨w4, hw⟩ : ∃ W, w3.setCell ⟨b, 4, none⟩ (.slice sc nc qc) = W := ⟨_, rfl⟩
    have KB := Lib.hid (show w4.heap[b]? = some (.cells #[.int .i64 kk, .slice none 0 0, .slice none 0 0, .slice none 0 0, .slice sc nc qc, .slice none 0 0, .int .i64 0, .int .i64 0] 31 (0, 0)) from hw ▸ Joins.block_setCell KB.out _)
    have KA := Lib.hid (show w4.heap[w.heap.size]? = some (.cells #[.int .i64 kk, .slice ai n ci, .slice ap parts.length cp, .slice an nn cn, .slice ac cls.length cc, .slice al levels.length cl, .int .i64 code, .int .i64 env] 31 (0, 0)) from hw ▸ (Below.heap_setCell _ _ _ _ (show w.heap.size ≠ b by omega)).trans KA.out)
    have KR := Lib.hid (show w4.heap[w.heap.size + 1]? = some (.cells #[.int .i64 0, .slice none 0 0, .slice none 0 0, .slice none 0 0, .slice none 0 0, .slice none 0 0, .int .i64 0, .int .i64 0] 31 (0, 0)) from hw ▸ (Below.heap_setCell _ _ _ _ (show w.heap.size + 1 ≠ b by omega)).trans KR.out)
    have BW := Lib.hid (show Below w.heap.size w w4 from hw ▸ BW.out.setCell (p := ⟨b, 4, none⟩) (show w.heap.size ≤ b by omega) _)
    have U := Lib.hid (show Und (b + 1) w4 _ _ _ _ _ _ _ _ _ _ _ _ from hw ▸ U.out.put (Nat.lt_succ_self _))
    have SL := Nat.le_trans SL (show w3.heap.size ≤ w4.heap.size from hw ▸ (by simp))
    rw [hw]
    clear hw
    obtain ⟨a0, a1, a2, a3, a4, a5, a6, a7⟩ := vec8 KA.out
    have hltA := (Array.getElem?_eq_some_iff.1 KA.out).1
    obtain ⟨w5, hw2⟩ : ∃ W, w4.alloc (.cells #[] 9) = W := ⟨_, rfl⟩
    have B12 := Lib.hid (show Below w4.heap.size w4 w5 from hw2 ▸ below1 w4 _)
    have KS := Lib.hid (show w5.heap[w4.heap.size]? = some (.cells #[] 9 (0, 0)) from hw2 ▸ blk_new w4 _ rfl)
    have BW2 := Lib.hid (below_then BW.out B12.out)
    have EW := Lib.hid hw2
    clear hw2
    go_wp2_with (at_builtin; go_loud (rw [EW.out]; refine wpList_copyTz (w0 := w4) rfl _ _ rfl _ rfl (.inr ⟨w4.heap.size, Nat.le_refl _, rfl, KS.out⟩) B12.out al cl levels lo hi rfl (HL.out _ BW2.out) ll ?_))
    intro v' w6 tz
    obtain ⟨sl, nl, ql, rfl⟩ := tz.form
    have U := Lib.hid (U.out.setL (row_lo tz.row SL) (moved_new tz.row) (fun g _ hg _ => tz.below.block g hg) tz.below.size)
    have BW := Lib.hid (below_then BW.out tz.below)
    have KA := Lib.hid (blk_below tz.below KA.out)
    have KB := Lib.hid (blk_below tz.below KB.out)
    have KR := Lib.hid (blk_below tz.below KR.out)
    have SL := Nat.le_trans SL tz.below.size
    clear tz a0 a1 a2 a3 a4 a5 a6 a7 hltA
    obtain ⟨a0, a1, a2, a3, a4, a5, a6, a7⟩ := vec8 KA.out
    obtain ⟨k0, k1, k2, k3, k4, k5, k6, k7⟩ := vec8 KB.out
    obtain ⟨g0, g1, g2, g3, g4, g5, g6, g7⟩ := free8 KB.out
    have hbb := (Array.getElem?_eq_some_iff.1 KB.out).1
    go_upto_region 5 with (fail)
    clear a0 a1 a2 a3 a4 a5 a6 a7 k0 k1 k2 k3 k4 k5 k6 k7 g0 g1 g2 g3 g4 g5 g6 g7 hbb
    obtain ⟨w7, hw⟩ : ∃ W, w6.setCell ⟨b, 5, none⟩ (.slice sl nl ql) = W := ⟨_, rfl⟩
    have KB := Lib.hid (show w7.heap[b]? = some (.cells #[.int .i64 kk, .slice none 0 0, .slice none 0 0, .slice none 0 0, .slice sc nc qc, .slice sl nl ql, .int .i64 0, .int .i64 0] 31 (0, 0)) from hw ▸ Joins.block_setCell KB.out _)
    have KA := Lib.hid (show w7.heap[w.heap.size]? = some (.cells #[.int .i64 kk, .slice ai n ci, .slice ap parts.length cp, .slice an nn cn, .slice ac cls.length cc, .slice al levels.length cl, .int .i64 code, .int .i64 env] 31 (0, 0)) from hw ▸ (Below.heap_setCell _ _ _ _ (show w.heap.size ≠ b by omega)).trans KA.out)
    have KR := Lib.hid (show w7.heap[w.heap.size + 1]? = some (.cells #[.int .i64 0, .slice none 0 0, .slice none 0 0, .slice none 0 0, .slice none 0 0, .slice none 0 0, .int .i64 0, .int .i64 0] 31 (0, 0)) from hw ▸ (Below.heap_setCell _ _ _ _ (show w.heap.size + 1 ≠ b by omega)).trans KR.out)
    have BW := Lib.hid (show Below w.heap.size w w7 from hw ▸ BW.out.setCell (p := ⟨b, 5, none⟩) (show w.heap.size ≤ b by omega) _)
    have U := Lib.hid (show Und (b + 1) w7 _ _ _ _ _ _ _ _ _ _ _ _ from hw ▸ U.out.put (Nat.lt_succ_self _))
    have SL := Nat.le_trans SL (show w6.heap.size ≤ w7.heap.size from hw ▸ (by simp))
    rw [hw]
    clear hw
    have U := Lib.hid (show Und (b + 1) w7 d [] [] [] (kpC levels cls) levels _ _ _ _ _ [] from by rw [EKL.out]; exact U.out)
    go_wp2
    clear hl0
    obtain ⟨dv, hdv⟩ : ∃ dv, decide (0 < levels.length) = dv := ⟨_, rfl⟩
    try rw [hdv]
    clear hdv
    have W0 := Lib.hid (show w.heap.size ≤ b + 1 by omega)
    have B0' := Lib.hid (show w.heap.size ≤ b by omega)
    go_loopw [6] (fun i wr => ∃ (k : Nat) (vi vn : Value), k ≤ m ∧ i = .int .i64 k ∧ Below w.heap.size w wr ∧ wr.heap[w.heap.size]? = some (.cells #[.int .i64 kk, .slice ai n ci, .slice ap parts.length cp, .slice an nn cn, .slice ac cls.length cc, .slice al levels.length cl, .int .i64 code, .int .i64 env] 31 (0, 0)) ∧ wr.heap[w.heap.size + 1]? = some (.cells #[.int .i64 0, .slice none 0 0, .slice none 0 0, .slice none 0 0, .slice none 0 0, .slice none 0 0, .int .i64 0, .int .i64 0] 31 (0, 0)) ∧ wr.heap[b]? = some (.cells #[.int .i64 kk, vi, .slice none 0 0, vn, .slice sc nc qc, .slice sl nl ql, .int .i64 0, .int .i64 0] 31 (0, 0)) ∧ Und (b + 1) wr d (pkL noI items (idx.take k)) [] (pkL ⟨#[]⟩ names (idx.take k)) (kpC levels cls) levels vi (.slice none 0 0) vn (.slice sc nc qc) (.slice sl nl ql) []) (fun i _ => m - (intOf i).toNat)
    case atStart => exact ⟨0, .slice none 0 0, .slice none 0 0, Nat.zero_le _, rfl, BW.out, KA.out, KR.out, KB.out, by rw [pkT_zero, pkT_zero]; exact U.out⟩
    case round =>
      obtain ⟨k, vi, vn, hk, rfl, hbw', hka, hkr, hkb, hu⟩ := hrel
      have BW := Lib.hid hbw'
      have KA := Lib.hid hka
      have KR := Lib.hid hkr
      have KB := Lib.hid hkb
      have U := Lib.hid hu
      clear hbw' hka hkr hkb hu
      by_cases hlt : k < m
      · obtain ⟨bi, oi, rfl, hbi, cx⟩ := (SA.out.below (BW.out.mono hB)) k hlt
        have hq := IN.out k hlt
        have NXI := Lib.hid (PI.out k (by omega) hlt)
        replace cx := (show wr.cell? ⟨bi, oi + k, none⟩ = some (.int .i64 (((idx.getD k 0 : Nat) : Int) + 1)) from cx)
        have PNk := Lib.hid (fun h => PN.out k h hlt)
        obtain ⟨q, hq'⟩ : ∃ q, idx.getD k 0 = q := ⟨_, rfl⟩
        rw [hq'] at cx hq NXI PNk
        clear hq'
        have IY := Lib.hid (fun W => inYes (q : Int) 0 ((n : Int) - 1) W (by omega) (by omega))
        obtain ⟨ba, off, rfl, hbB, c0, c1, c2'⟩ := AI.out q w hq (Below.refl _ _)
        have c2 : w.cell? ⟨ba, off + q * 3 + 2, none⟩ = some (.string (items.getD q noI).t) := c2'
        have hbaw : ba < w.heap.size := Nat.lt_of_lt_of_le hbB hhi
        obtain ⟨x, hx⟩ : ∃ x, items.getD q noI = x := ⟨_, rfl⟩
        rw [hx] at c0 c1 c2 NXI
        clear hx c2'
        obtain ⟨a0, a1, a2, a3, a4, a5, a6, a7⟩ := vec8 KA.out
        go_wp2_with fail
        with_reducible refine (LE.out _).mono ?_
        rintro e wl ⟨rfl, b'⟩
        have BW := Lib.hid (below_then BW.out b')
        have KA := Lib.hid (blk_below b' KA.out)
        have KR := Lib.hid (blk_below b' KR.out)
        have KB := Lib.hid (blk_below b' KB.out)
        have U := Lib.hid (U.out.below b')
        clear b' a0 a1 a2 a3 a4 a5 a6 a7
        go_wp2_with fail
        with_reducible refine (IY.out _).mono ?_
        rintro e w' ⟨rfl, rfl⟩
        obtain ⟨a0, a1, a2, a3, a4, a5, a6, a7⟩ := vec8 KA.out
        have hbl := (Array.getElem?_eq_some_iff.1 KB.out).1
        have hKR := (Array.getElem?_eq_some_iff.1 KR.out).1
        have KRW := KR
        have UW := U
        by_cases h0 : nn = 0
        · have e0 := P0.out h0 (k + 1)
          have e1 := P0.out h0 k
          have hn0 : (nn : Int) ≤ 0 := by omega
          have H0 := Lib.hid h0
          clear h0
          have LN := Lib.hid (show (pkL noI items (idx.take k)).length ≤ 1048576 by have := LI.out k; omega)
          have FAR := Lib.hid (fun g hg => (U.out.i.lt g hg).1)
          have H := Lib.hid (show HeldC w wl ([(w.heap.size, 31, #[.int .i64 kk, .slice (some ⟨ba, off, none⟩) n ci, .slice ap parts.length cp, .slice an nn cn, .slice ac cls.length cc, .slice al levels.length cl, .int .i64 code, .int .i64 env]), (b, 31, #[.int .i64 kk, vi, .slice none 0 0, vn, .slice sc nc qc, .slice sl nl ql, .int .i64 0, .int .i64 0])]) from heldC_cons (heldC_cons ⟨BW.out, (fun _ h => by cases h)⟩ KB.out) KA.out)
          go_upto_region 15 with (fail)
          clear a0 a1 a2 a3 a4 a5 a6 a7
          refine run_region (ops := (opsOf Try.f43 15)) (S := fun w' => HeldC w w' ([(w.heap.size, 31, #[.int .i64 kk, .slice (some ⟨ba, off, none⟩) n ci, .slice ap parts.length cp, .slice an nn cn, .slice ac cls.length cc, .slice al levels.length cl, .int .i64 code, .int .i64 env]), (b, 31, #[.int .i64 kk, vi, (.slice none 0 0), vn, .slice sc nc qc, .slice sl nl ql, .int .i64 0, .int .i64 0])])) [(0, true), (1, true), (2, true), (3, true), (4, true), (5, true), (6, true), (7, false), (8, false), (9, true), (10, false)] (by kernel_rfl) (by kernel_rfl) (by kernel_rfl) (by kernel_rfl) (by kernel_rfl) (fun _ _ _ _ _ h => h) (heldC_drew H.out) ?_
          have H := Lib.hid (heldC_drew H.out)
          have U := Lib.hid (U.out.keep (below_drew' (Below.refl _ _)))
          refine runC_partV (b := b) (by kernel_rfl) (show opAt (opsOf Try.f43 15) 0 = some (some 69, .fieldAddr 31 (.tmp 5) 1, none) from by kernel_rfl) (by kernel_rfl) (by kernel_rfl) (by kernel_rfl) ?_
          refine runC_cell (b := b) (j := 1) (v := vi) load_its (show opAt (opsOf Try.f43 15) 1 = some (some 70, .load 28 (.tmp 69), none) from by kernel_rfl) (by kernel_rfl) (by kernel_rfl) (by kernel_rfl) (List.Mem.tail _ (List.Mem.head _)) rfl ?_
          refine runC_partV (b := w.heap.size) (by kernel_rfl) (show opAt (opsOf Try.f43 15) 2 = some (some 71, .fieldAddr 31 (.tmp 2) 1, none) from by kernel_rfl) (by kernel_rfl) (by kernel_rfl) (by kernel_rfl) ?_
          refine runC_cell (b := w.heap.size) (j := 1) (v := .slice (some ⟨ba, off, none⟩) n ci) load_its (show opAt (opsOf Try.f43 15) 3 = some (some 72, .load 28 (.tmp 71), none) from by kernel_rfl) (by kernel_rfl) (by kernel_rfl) (by kernel_rfl) (List.Mem.head _) rfl ?_
          refine run_mov (v := .int .i64 ((q : Int))) (show opAt (opsOf Try.f43 15) 4 = some (some 73, .move (.tmp 7), none) from by kernel_rfl) (by kernel_rfl) (by kernel_rfl) (by kernel_rfl) ?_
          refine run_idx3 (n := n) (c := ci) (b := ba) (off := off) (k := q) (show opAt (opsOf Try.f43 15) 5 = some (some 74, .indexAddr 28 (.tmp 72) (.tmp 73), none) from by kernel_rfl) (by kernel_rfl) (by kernel_rfl) (by kernel_rfl) (by kernel_rfl) hq ?_
          refine runC_oldI (b := ba) (j := off + q * 3) (z := x) (show opAt (opsOf Try.f43 15) 6 = some (some 75, .load 67 (.tmp 74), none) from by kernel_rfl) (by kernel_rfl) (by kernel_rfl) (by kernel_rfl) hbaw c0 c1 c2 ?_
          refine tail_its3 x (show opAt (opsOf Try.f43 15) 7 = some (some 76, .buildSlice 28 1 #[(0, (.tmp 75))], none) from by kernel_rfl) (by kernel_rfl) (by kernel_rfl) (show opAt (opsOf Try.f43 15) 8 = some (some 77, .call { callee := .builtin .append, args := [(.tmp 70), (.tmp 76)].toArray, argTypes := [28, 28].toArray }, none) from by kernel_rfl) (by kernel_rfl) (fun _ => by kernel_rfl) (show opAt (opsOf Try.f43 15) 9 = some (some 78, .fieldAddr 31 (.tmp 5) 1, none) from by kernel_rfl) (by kernel_rfl) (by kernel_rfl) (fun _ _ => by kernel_rfl) (show opAt (opsOf Try.f43 15) 10 = some (none, .store 28 (.tmp 78) (.tmp 77), none) from by kernel_rfl) (by kernel_rfl) (by kernel_rfl) H.out U.out.i LN.out (Nat.succ_le_of_lt (Array.getElem?_eq_some_iff.1 (heldC_at H.out (List.Mem.tail _ (List.Mem.head _)))).1) W0.out (List.Mem.tail _ (List.Mem.head _)) rfl (Nat.lt_succ_self _) B0'.out (fun q hq => far_two FAR.out (Nat.lt_succ_of_lt hbw) (Nat.lt_succ_self _) hq) ?_
          rintro v' w2 ⟨sa, sn, sc2, rfl⟩ hK hO hB hZ hR hG
          simp only [putAll, Act.put, List.setIfInBounds_toArray, List.set_cons_zero, List.set_cons_succ]
          have KA1 := heldC_at H.out (List.Mem.head _)
          have KR1 := heldC_at H.out (List.Mem.head _)
          have hwa := (Array.getElem?_eq_some_iff.1 KA1).1
          have U := Lib.hid (U.out.setI hO hR (fun g hlo hg hne => hG g hg (by omega) hne) hZ)
          have KA := Lib.hid (show w2.heap[w.heap.size]? = some (.cells #[.int .i64 kk, .slice (some ⟨ba, off, none⟩) n ci, .slice ap parts.length cp, .slice an nn cn, .slice ac cls.length cc, .slice al levels.length cl, .int .i64 code, .int .i64 env] 31 (0, 0)) from (hG _ hwa (by omega) (fun e => by have := FAR.out _ e; omega)).trans KA1)
          have KB := Lib.hid (show w2.heap[b]? = some (.cells #[.int .i64 kk, .slice sa sn sc2, .slice none 0 0, vn, .slice sc nc qc, .slice sl nl ql, .int .i64 0, .int .i64 0] 31 (0, 0)) from hK)
          have BW := Lib.hid hB
          have KR := Lib.hid (show w2.heap[w.heap.size + 1]? = some (.cells #[.int .i64 0, .slice none 0 0, .slice none 0 0, .slice none 0 0, .slice none 0 0, .slice none 0 0, .int .i64 0, .int .i64 0] 31 (0, 0)) from (hG _ hKR (by omega) (fun e => by have := FAR.out _ e; omega)).trans KRW.out)
          clear hK hO hB hR hG hZ H FAR LN KA1 KR1 hwa
          obtain ⟨a0, a1, a2, a3, a4, a5, a6, a7⟩ := vec8 KA.out
          go_wp2
          go_roundw
          case rel => first | exact ⟨k + 1, _, vn, by omega, by go_num, BW.out, KA.out, KR.out, KB.out, by rw [NXI.out, e0]; rw [e1] at U; exact U.out⟩ | ((repeat apply Exists.intro); exact ⟨⟨k + 1, _, vn, by omega, by go_num, BW.out, KA.out, KR.out, KB.out, by rw [NXI.out, e0]; rw [e1] at U; exact U.out⟩, rfl⟩)
          case measure => simp [intOf]; omega
        · have hqn : q < nn := by have := hnm h0; omega
          have hn0 : 0 < (nn : Int) := by omega
          have NXN := Lib.hid (PNk.out h0)
          obtain ⟨bn, offn, rfl, hbN, cn0⟩ := AN.out q w hqn (Below.refl _ _)
          have hbnw : bn < w.heap.size := Nat.lt_of_lt_of_le hbN hhi
          obtain ⟨s, hs⟩ : ∃ s, names.getD q ⟨#[]⟩ = s := ⟨_, rfl⟩
          rw [hs] at cn0 NXN
          clear hs
          have LN := Lib.hid (show (pkL noI items (idx.take k)).length ≤ 1048576 by have := LI.out k; omega)
          have FAR := Lib.hid (fun g hg => (U.out.i.lt g hg).1)
          have H := Lib.hid (show HeldC w wl ([(w.heap.size, 31, #[.int .i64 kk, .slice (some ⟨ba, off, none⟩) n ci, .slice ap parts.length cp, .slice (some ⟨bn, offn, none⟩) nn cn, .slice ac cls.length cc, .slice al levels.length cl, .int .i64 code, .int .i64 env]), (b, 31, #[.int .i64 kk, vi, .slice none 0 0, vn, .slice sc nc qc, .slice sl nl ql, .int .i64 0, .int .i64 0])]) from heldC_cons (heldC_cons ⟨BW.out, (fun _ h => by cases h)⟩ KB.out) KA.out)
          go_upto_region 15 with (fail)
          clear a0 a1 a2 a3 a4 a5 a6 a7
          refine run_region (ops := (opsOf Try.f43 15)) (S := fun w' => HeldC w w' ([(w.heap.size, 31, #[.int .i64 kk, .slice (some ⟨ba, off, none⟩) n ci, .slice ap parts.length cp, .slice (some ⟨bn, offn, none⟩) nn cn, .slice ac cls.length cc, .slice al levels.length cl, .int .i64 code, .int .i64 env]), (b, 31, #[.int .i64 kk, vi, (.slice none 0 0), vn, .slice sc nc qc, .slice sl nl ql, .int .i64 0, .int .i64 0])])) [(0, true), (1, true), (2, true), (3, true), (4, true), (5, true), (6, true), (7, false), (8, false), (9, true), (10, false)] (by kernel_rfl) (by kernel_rfl) (by kernel_rfl) (by kernel_rfl) (by kernel_rfl) (fun _ _ _ _ _ h => h) (heldC_drew H.out) ?_
          have H := Lib.hid (heldC_drew H.out)
          have U := Lib.hid (U.out.keep (below_drew' (Below.refl _ _)))
          refine runC_partV (b := b) (by kernel_rfl) (show opAt (opsOf Try.f43 15) 0 = some (some 69, .fieldAddr 31 (.tmp 5) 1, none) from by kernel_rfl) (by kernel_rfl) (by kernel_rfl) (by kernel_rfl) ?_
          refine runC_cell (b := b) (j := 1) (v := vi) load_its (show opAt (opsOf Try.f43 15) 1 = some (some 70, .load 28 (.tmp 69), none) from by kernel_rfl) (by kernel_rfl) (by kernel_rfl) (by kernel_rfl) (List.Mem.tail _ (List.Mem.head _)) rfl ?_
          refine runC_partV (b := w.heap.size) (by kernel_rfl) (show opAt (opsOf Try.f43 15) 2 = some (some 71, .fieldAddr 31 (.tmp 2) 1, none) from by kernel_rfl) (by kernel_rfl) (by kernel_rfl) (by kernel_rfl) ?_
          refine runC_cell (b := w.heap.size) (j := 1) (v := .slice (some ⟨ba, off, none⟩) n ci) load_its (show opAt (opsOf Try.f43 15) 3 = some (some 72, .load 28 (.tmp 71), none) from by kernel_rfl) (by kernel_rfl) (by kernel_rfl) (by kernel_rfl) (List.Mem.head _) rfl ?_
          refine run_mov (v := .int .i64 ((q : Int))) (show opAt (opsOf Try.f43 15) 4 = some (some 73, .move (.tmp 7), none) from by kernel_rfl) (by kernel_rfl) (by kernel_rfl) (by kernel_rfl) ?_
          refine run_idx3 (n := n) (c := ci) (b := ba) (off := off) (k := q) (show opAt (opsOf Try.f43 15) 5 = some (some 74, .indexAddr 28 (.tmp 72) (.tmp 73), none) from by kernel_rfl) (by kernel_rfl) (by kernel_rfl) (by kernel_rfl) (by kernel_rfl) hq ?_
          refine runC_oldI (b := ba) (j := off + q * 3) (z := x) (show opAt (opsOf Try.f43 15) 6 = some (some 75, .load 67 (.tmp 74), none) from by kernel_rfl) (by kernel_rfl) (by kernel_rfl) (by kernel_rfl) hbaw c0 c1 c2 ?_
          refine tail_its3 x (show opAt (opsOf Try.f43 15) 7 = some (some 76, .buildSlice 28 1 #[(0, (.tmp 75))], none) from by kernel_rfl) (by kernel_rfl) (by kernel_rfl) (show opAt (opsOf Try.f43 15) 8 = some (some 77, .call { callee := .builtin .append, args := [(.tmp 70), (.tmp 76)].toArray, argTypes := [28, 28].toArray }, none) from by kernel_rfl) (by kernel_rfl) (fun _ => by kernel_rfl) (show opAt (opsOf Try.f43 15) 9 = some (some 78, .fieldAddr 31 (.tmp 5) 1, none) from by kernel_rfl) (by kernel_rfl) (by kernel_rfl) (fun _ _ => by kernel_rfl) (show opAt (opsOf Try.f43 15) 10 = some (none, .store 28 (.tmp 78) (.tmp 77), none) from by kernel_rfl) (by kernel_rfl) (by kernel_rfl) H.out U.out.i LN.out (Nat.succ_le_of_lt (Array.getElem?_eq_some_iff.1 (heldC_at H.out (List.Mem.tail _ (List.Mem.head _)))).1) W0.out (List.Mem.tail _ (List.Mem.head _)) rfl (Nat.lt_succ_self _) B0'.out (fun q hq => far_two FAR.out (Nat.lt_succ_of_lt hbw) (Nat.lt_succ_self _) hq) ?_
          rintro v' w2 ⟨sa, sn, sc2, rfl⟩ hK hO hB hZ hR hG
          simp only [putAll, Act.put, List.setIfInBounds_toArray, List.set_cons_zero, List.set_cons_succ]
          have KA1 := heldC_at H.out (List.Mem.head _)
          have KR1 := heldC_at H.out (List.Mem.head _)
          have hwa := (Array.getElem?_eq_some_iff.1 KA1).1
          have U := Lib.hid (U.out.setI hO hR (fun g hlo hg hne => hG g hg (by omega) hne) hZ)
          have KA := Lib.hid (show w2.heap[w.heap.size]? = some (.cells #[.int .i64 kk, .slice (some ⟨ba, off, none⟩) n ci, .slice ap parts.length cp, .slice (some ⟨bn, offn, none⟩) nn cn, .slice ac cls.length cc, .slice al levels.length cl, .int .i64 code, .int .i64 env] 31 (0, 0)) from (hG _ hwa (by omega) (fun e => by have := FAR.out _ e; omega)).trans KA1)
          have KB := Lib.hid (show w2.heap[b]? = some (.cells #[.int .i64 kk, .slice sa sn sc2, .slice none 0 0, vn, .slice sc nc qc, .slice sl nl ql, .int .i64 0, .int .i64 0] 31 (0, 0)) from hK)
          have BW := Lib.hid hB
          have KR := Lib.hid (show w2.heap[w.heap.size + 1]? = some (.cells #[.int .i64 0, .slice none 0 0, .slice none 0 0, .slice none 0 0, .slice none 0 0, .slice none 0 0, .int .i64 0, .int .i64 0] 31 (0, 0)) from (hG _ hKR (by omega) (fun e => by have := FAR.out _ e; omega)).trans KRW.out)
          clear hK hO hB hR hG hZ H FAR LN KA1 KR1 hwa
          obtain ⟨a0, a1, a2, a3, a4, a5, a6, a7⟩ := vec8 KA.out
          have hKR := (Array.getElem?_eq_some_iff.1 KR.out).1
          have KRW := KR
          have LN := Lib.hid (show (pkL ⟨#[]⟩ names (idx.take k)).length ≤ 1048576 by have := LM.out k; omega)
          have FAR := Lib.hid (fun g hg => (U.out.n.lt g hg).1)
          have H := Lib.hid (show HeldC w w2 ([(w.heap.size, 31, #[.int .i64 kk, .slice (some ⟨ba, off, none⟩) n ci, .slice ap parts.length cp, .slice (some ⟨bn, offn, none⟩) nn cn, .slice ac cls.length cc, .slice al levels.length cl, .int .i64 code, .int .i64 env]), (b, 31, #[.int .i64 kk, .slice sa sn sc2, .slice none 0 0, vn, .slice sc nc qc, .slice sl nl ql, .int .i64 0, .int .i64 0])]) from heldC_cons (heldC_cons ⟨BW.out, (fun _ h => by cases h)⟩ KB.out) KA.out)
          go_upto_region 18 with (fail)
          clear a0 a1 a2 a3 a4 a5 a6 a7
          refine run_region (ops := (opsOf Try.f43 18)) (S := fun w' => HeldC w w' ([(w.heap.size, 31, #[.int .i64 kk, .slice (some ⟨ba, off, none⟩) n ci, .slice ap parts.length cp, .slice (some ⟨bn, offn, none⟩) nn cn, .slice ac cls.length cc, .slice al levels.length cl, .int .i64 code, .int .i64 env]), (b, 31, #[.int .i64 kk, (.slice sa sn sc2), (.slice none 0 0), vn, .slice sc nc qc, .slice sl nl ql, .int .i64 0, .int .i64 0])])) [(0, true), (1, true), (2, true), (3, true), (4, true), (5, true), (6, true), (7, false), (8, false), (9, true), (10, false)] (by kernel_rfl) (by kernel_rfl) (by kernel_rfl) (by kernel_rfl) (by kernel_rfl) (fun _ _ _ _ _ h => h) (heldC_drew H.out) ?_
          have H := Lib.hid (heldC_drew H.out)
          have U := Lib.hid (U.out.keep (below_drew' (Below.refl _ _)))
          refine runC_partV (b := b) (by kernel_rfl) (show opAt (opsOf Try.f43 18) 0 = some (some 92, .fieldAddr 31 (.tmp 5) 3, none) from by kernel_rfl) (by kernel_rfl) (by kernel_rfl) (by kernel_rfl) ?_
          refine runC_cell (b := b) (j := 3) (v := vn) load_strs (show opAt (opsOf Try.f43 18) 1 = some (some 93, .load 24 (.tmp 92), none) from by kernel_rfl) (by kernel_rfl) (by kernel_rfl) (by kernel_rfl) (List.Mem.tail _ (List.Mem.head _)) rfl ?_
          refine runC_partV (b := w.heap.size) (by kernel_rfl) (show opAt (opsOf Try.f43 18) 2 = some (some 94, .fieldAddr 31 (.tmp 2) 3, none) from by kernel_rfl) (by kernel_rfl) (by kernel_rfl) (by kernel_rfl) ?_
          refine runC_cell (b := w.heap.size) (j := 3) (v := .slice (some ⟨bn, offn, none⟩) nn cn) load_strs (show opAt (opsOf Try.f43 18) 3 = some (some 95, .load 24 (.tmp 94), none) from by kernel_rfl) (by kernel_rfl) (by kernel_rfl) (by kernel_rfl) (List.Mem.head _) rfl ?_
          refine run_mov (v := .int .i64 ((q : Int))) (show opAt (opsOf Try.f43 18) 4 = some (some 96, .move (.tmp 7), none) from by kernel_rfl) (by kernel_rfl) (by kernel_rfl) (by kernel_rfl) ?_
          refine run_idx1 (n := nn) (c := cn) (b := bn) (off := offn) (k := q) (show opAt (opsOf Try.f43 18) 5 = some (some 97, .indexAddr 24 (.tmp 95) (.tmp 96), none) from by kernel_rfl) (by kernel_rfl) (by kernel_rfl) (by kernel_rfl) (by kernel_rfl) hqn Try.underlying24 (by kernel_rfl) infoStr ?_
          refine runC_old (b := bn) (j := offn + q) (v := .string s) load_text (show opAt (opsOf Try.f43 18) 6 = some (some 98, .load 9 (.tmp 97), none) from by kernel_rfl) (by kernel_rfl) (by kernel_rfl) (by kernel_rfl) hbnw cn0 ?_
          refine tail_txs3 s (show opAt (opsOf Try.f43 18) 7 = some (some 99, .buildSlice 24 1 #[(0, (.tmp 98))], none) from by kernel_rfl) (by kernel_rfl) (by kernel_rfl) (show opAt (opsOf Try.f43 18) 8 = some (some 100, .call { callee := .builtin .append, args := [(.tmp 93), (.tmp 99)].toArray, argTypes := [24, 24].toArray }, none) from by kernel_rfl) (by kernel_rfl) (fun _ => by kernel_rfl) (show opAt (opsOf Try.f43 18) 9 = some (some 101, .fieldAddr 31 (.tmp 5) 3, none) from by kernel_rfl) (by kernel_rfl) (by kernel_rfl) (fun _ _ => by kernel_rfl) (show opAt (opsOf Try.f43 18) 10 = some (none, .store 24 (.tmp 101) (.tmp 100), none) from by kernel_rfl) (by kernel_rfl) (by kernel_rfl) H.out U.out.n LN.out (Nat.succ_le_of_lt (Array.getElem?_eq_some_iff.1 (heldC_at H.out (List.Mem.tail _ (List.Mem.head _)))).1) W0.out (List.Mem.tail _ (List.Mem.head _)) rfl (Nat.lt_succ_self _) B0'.out (fun q hq => far_two FAR.out (Nat.lt_succ_of_lt hbw) (Nat.lt_succ_self _) hq) ?_
          rintro v' w3 ⟨sa3, sn3, sc3, rfl⟩ hK hO hB hZ hR hG
          simp only [putAll, Act.put, List.setIfInBounds_toArray, List.set_cons_zero, List.set_cons_succ]
          have KA1 := heldC_at H.out (List.Mem.head _)
          have KR1 := heldC_at H.out (List.Mem.head _)
          have hwa := (Array.getElem?_eq_some_iff.1 KA1).1
          have U := Lib.hid (U.out.setN hO hR (fun g hlo hg hne => hG g hg (by omega) hne) hZ)
          have KA := Lib.hid (show w3.heap[w.heap.size]? = some (.cells #[.int .i64 kk, .slice (some ⟨ba, off, none⟩) n ci, .slice ap parts.length cp, .slice (some ⟨bn, offn, none⟩) nn cn, .slice ac cls.length cc, .slice al levels.length cl, .int .i64 code, .int .i64 env] 31 (0, 0)) from (hG _ hwa (by omega) (fun e => by have := FAR.out _ e; omega)).trans KA1)
          have KB := Lib.hid (show w3.heap[b]? = some (.cells #[.int .i64 kk, .slice sa sn sc2, .slice none 0 0, .slice sa3 sn3 sc3, .slice sc nc qc, .slice sl nl ql, .int .i64 0, .int .i64 0] 31 (0, 0)) from hK)
          have BW := Lib.hid hB
          have KR := Lib.hid (show w3.heap[w.heap.size + 1]? = some (.cells #[.int .i64 0, .slice none 0 0, .slice none 0 0, .slice none 0 0, .slice none 0 0, .slice none 0 0, .int .i64 0, .int .i64 0] 31 (0, 0)) from (hG _ hKR (by omega) (fun e => by have := FAR.out _ e; omega)).trans KRW.out)
          clear hK hO hB hR hG hZ H FAR LN KA1 KR1 hwa
          go_wp2
          go_roundw
          case rel => first | exact ⟨k + 1, _, _, by omega, by go_num, BW.out, KA.out, KR.out, KB.out, by rw [NXI.out, NXN.out]; exact U.out⟩ | ((repeat apply Exists.intro); exact ⟨⟨k + 1, _, _, by omega, by go_num, BW.out, KA.out, KR.out, KB.out, by rw [NXI.out, NXN.out]; exact U.out⟩, rfl⟩)
          case measure => simp [intOf]; omega
      · obtain rfl : k = m := by omega
        obtain ⟨si, qi, rfl⟩ := row_form U.out.i
        obtain ⟨sn, qn, Fn, rfl, hot, _, hrt, _⟩ := txs_of_row U.out.n
        have CLN := Lib.hid (fun (W : World) (hb : Below wr.heap.size wr W) => specCleanN kk 0 0 si none sn sc sl (pkL noI items (idx.take k)).length qi 0 0 qn nc qc nl ql (pkL ⟨#[]⟩ names (idx.take k)) (b + 1) wr.heap.size W ((hot.at_ hrt).below hb (Nat.le_refl _)) hb.size (Nat.le_trans (LM.out k) hn))
        clear hot hrt
        obtain ⟨k0, k1, k2, k3, k4, k5, k6, k7⟩ := vec8 KB.out
        have hKR := (Array.getElem?_eq_some_iff.1 KR.out).1
        go_wp2_with fail
        refine (CLN.out _ (Below.refl _ _)).mono ?_
        rintro e w5 ⟨b', hor⟩
        have BW := Lib.hid (below_then BW.out b')
        have KR := Lib.hid (blk_below b' KR.out)
        have O := Lib.hid ((U.out.below b').own kk)
        have hL1 : w.heap.size + 1 < b + 1 := by omega
        clear b' k0 k1 k2 k3 k4 k5 k6 k7
        obtain ⟨z0, z1, z2, z3, z4, z5, z6, z7⟩ := vec8 KR.out
        obtain ⟨f0, f1, f2, f3, f4, f5, f6, f7⟩ := free8 KR.out
        rcases hor with ⟨hex, rfl⟩ | ⟨hem, g, hg, rfl⟩
        · have EN := Lib.hid (clnN_yes (l := pkL ⟨#[]⟩ names (idx.take k)) (by obtain ⟨i, h1, h2⟩ := hex; exact ⟨i, h1, fun h => h2 (empty_of_size h)⟩))
          rw [EN.out] at EV
          rw [← EV.out] at O
          clear EV EN hex
          go_wp2
          exact vec_end rfl rfl rfl KR.out ⟨_, rfl, (O.out.put8 hL1 _ _ _ _ _ _ _ _).wide (by omega) (by rw [put8_size]; exact Nat.le_refl _), put8_below BW.out (Nat.le_succ _)⟩
        · have EN := Lib.hid (clnN_no (l := pkL ⟨#[]⟩ names (idx.take k)) (fun ⟨i, h1, h2⟩ => h2 (show (txtS _ i).size = 0 by rw [hem i h1]; rfl)))
          rw [EN.out] at EV
          have O := Lib.hid (O.out.noNames (some ⟨g, 0, none⟩) 0)
          rw [← EV.out] at O
          clear EV EN hem hg
          go_wp2
          exact vec_end rfl rfl rfl KR.out ⟨_, rfl, (O.out.put8 hL1 _ _ _ _ _ _ _ _).wide (by omega) (by rw [put8_size]; exact Nat.le_refl _), put8_below BW.out (Nat.le_succ _)⟩
end Go.Proofs.Ytfbpbpbmnieieaa

/- UniqueOf of the reference. -/
namespace Go.Proofs.Ytfbpbpbmnieieaa
open Go.RowKit
set_option maxRecDepth 100000
set_option linter.unusedVariables false

def pzZ (p : Nat → Bool) (k : Nat) : List Int := (whN p k).map (fun (i : Nat) => (i : Int) + 1)
theorem pzZ_yes {p : Nat → Bool} {k : Nat} (h : p k = true) : pzZ p (k + 1) = pzZ p k ++ [(k : Int) + 1] := by unfold pzZ; rw [whN_yes h, List.map_append]; rfl
theorem pzZ_no {p : Nat → Bool} {k : Nat} (h : p k = false) : pzZ p (k + 1) = pzZ p k := by unfold pzZ; rw [whN_no h]
theorem pzZ_len (p : Nat → Bool) (k : Nat) : (pzZ p k).length = (whN p k).length := by unfold pzZ; simp
theorem pzZ_ix (p : Nat → Bool) (n i : Nat) (hi : i < (whN p n).length) : (pzZ p n).getD i 0 = ixF (whN p n) i + 1 := by
  unfold pzZ ixF; simp [List.getD_eq_getElem?_getD, hi]
theorem uq_first {l : List It} {k : Nat} {r : Int} (hk : k < l.length) (h : FirstIs l (l.getD k noI) r) (hu : uqP l k = true) : r = k := by
  refine (first_dup hk h).2.2.2 (fun q => ?_)
  unfold uqP at hu
  rw [bB_yes q] at hu
  cases hu
theorem uq_later {l : List It} {k : Nat} {r : Int} (hk : k < l.length) (h : FirstIs l (l.getD k noI) r) (hu : uqP l k = false) : ¬ r = k := by
  intro e
  have q := (first_dup hk h).2.2.1 e
  unfold uqP at hu
  rw [bB_no q] at hu
  cases hu
set_option maxHeartbeats 4000000 in
theorem specUniq (d : Nat) (v : Vec) (val : Value) (lo hi : Nat) (w : World) (hv : VecAt lo hi w d v val) (hhi : hi ≤ w.heap.size) (hsm : Small d v) :
    Calls Try.prog 31 #[val] w (ResVS d (uqV v) (atmS v) w) := by
  have C1 := Lib.hid (fun (w1 : World) (hb : Below w.heap.size w w1) => specAtm d v val lo hi w1 (hv.below hb hhi) (Nat.le_trans hhi hb.size) hsm)
  obtain ⟨VV, hVV⟩ : ∃ V, v = V := ⟨_, rfl⟩
  rw [hVV] at C1 ⊢
  obtain ⟨kk, items, parts, names, cls, levels, code, env⟩ := v
  obtain ⟨d', ai, ci, ap, cp, an, cn, ac, cc, al, cl, ed, rfl, hI, hN, hC, hL, hP⟩ := vecAt_open hv
  subst ed
  have li : items.length ≤ 1048576 := hsm.1
  have ln : names.length ≤ 1048576 := hsm.2.2.1
  have lc : cls.length ≤ 1048576 := hsm.2.2.2.1
  have ll : levels.length ≤ 1048576 := hsm.2.2.2.2.1
  have AI := Lib.hid (fun (k : Nat) (w1 : World) (hk : k < items.length) (hb : Below w.heap.size w w1) => (hI.below hb hhi).at_ hk)
  have CF := Lib.hid (fun (x : It) (w1 : World) (hb : Below w.heap.size w w1) => specFirst items x ai ci lo hi w1 (hI.below hb hhi) (Nat.le_trans hhi hb.size) li)
  have UY := Lib.hid (fun (k : Nat) (hk : k < items.length) (hu : uqP items k = true) r (h : FirstIs items (items.getD k noI) r) => uq_first hk h hu)
  have UN := Lib.hid (fun (k : Nat) (hk : k < items.length) (hu : uqP items k = false) r (h : FirstIs items (items.getD k noI) r) => uq_later hk h hu)
  have YS := Lib.hid (fun k (h : uqP items k = true) => pzZ_yes h)
  have NS := Lib.hid (fun k (h : uqP items k = false) => pzZ_no h)
  have LE := Lib.hid (fun k => (by rw [pzZ_len]; exact whN_len (uqP items) k : (pzZ (uqP items) k).length ≤ k))
  have XA := Lib.hid (fun (h : atmS VV = ⟨#[]⟩) => (by rw [← hVV] at h; exact atm_parts h : ¬ kk = 4 ∧ ¬ kk = 5 ∧ parts.length = 0 ∧ (names.length ≠ 0 → names.length = items.length) ∧ items.length ≤ 40))
  have XV := Lib.hid (fun (h : atmS VV = ⟨#[]⟩) => (by rw [← hVV] at h ⊢; exact uqV_yes h : uqV VV = .mk kk (pkL noI items (uqI items)) [] [] (kpC levels cls) levels 0 0))
  have CP := Lib.hid (fun (h4 : ¬ kk = 4) (h5 : ¬ kk = 5) (lp : parts.length = 0) (hnm : names.length ≠ 0 → names.length = items.length) (xi : Option Addr) (xc : Nat) (W : World) (hb : Below w.heap.size w W) (hs : IntsAt W.heap.size W xi (uqI items).length (fun i => ixF (uqI items) i + 1)) =>
    (by
      have hb' : ∀ i, i < (uqI items).length → (uqI items).getD i 0 < items.length := fun i hi => (whN_at (p := uqP items) (k := items.length) hi).1
      exact specPickA d' kk items parts names cls levels code env ai ap an ac al xi ci cp cn cc cl xc lo hi W.heap.size (uqI items) W (hI.below hb hhi) (hN.below hb hhi) (hC.below hb hhi) (hL.below hb hhi) (Nat.le_trans hhi hb.size) li lp ln lc ll hs (Nat.le_refl _) (by have := whN_len (uqP items) items.length; unfold uqI; omega) h4 h5 hb' hnm :
    Calls Try.prog 43 #[.agg #[.int .i64 kk, .slice ai items.length ci, .slice ap parts.length cp, .slice an names.length cn, .slice ac cls.length cc, .slice al levels.length cl, .int .i64 code, .int .i64 env], .slice xi (uqI items).length xc] W (ResV (d' + 1) (selV kk items parts names cls levels (uqI items)) W)))
  have IX := Lib.hid (fun i (hi : i < (uqI items).length) => show (pzZ (uqP items) items.length).getD i 0 = ixF (uqI items) i + 1 from pzZ_ix (uqP items) items.length i hi)
  have EL := Lib.hid (show (pzZ (uqP items) items.length).length = (uqI items).length from pzZ_len _ _)
  have SV := Lib.hid (fun (h : parts.length = 0) => (by unfold selV; rw [List.eq_nil_of_length_eq_zero h]; rfl : selV kk items parts names cls levels (uqI items) = .mk kk (pkL noI items (uqI items)) [] (clnN (pkL ⟨#[]⟩ names (uqI items))) (kpC levels cls) levels 0 0))
  obtain ⟨ix, hix⟩ : ∃ ix, uqI items = ix := ⟨_, rfl⟩
  obtain ⟨n, hn⟩ : ∃ n, items.length = n := ⟨_, rfl⟩
  rw [hix] at XV CP IX EL SV
  rw [hn] at C1 AI CF UY UN XA CP IX EL li ⊢
  clear hv hI hN hC hL hP hsm hVV hn hix ln lc ll
  go_enter Try.func31, Try.ntmps31
  go_wp2_with fail
  obtain ⟨w1, hw1⟩ : ∃ W, (w.alloc (.cells #[.int .i64 kk, .slice ai n ci, .slice ap parts.length cp, .slice an names.length cn, .slice ac cls.length cc, .slice al levels.length cl, .int .i64 code, .int .i64 env] 31)).alloc (.cells #[.int .i64 0, .slice none 0 0, .slice none 0 0, .slice none 0 0, .slice none 0 0, .slice none 0 0, .int .i64 0, .int .i64 0] 31) = W := ⟨_, rfl⟩
  have hsz : (w.alloc (.cells #[.int .i64 kk, .slice ai n ci, .slice ap parts.length cp, .slice an names.length cn, .slice ac cls.length cc, .slice al levels.length cl, .int .i64 code, .int .i64 env] 31)).heap.size = w.heap.size + 1 := by simp
  have B1 := Lib.hid (show Below w.heap.size w w1 from hw1 ▸ (below1 w _).alloc (by simp) _)
  have KA := Lib.hid (show w1.heap[w.heap.size]? = some (.cells #[.int .i64 kk, .slice ai n ci, .slice ap parts.length cp, .slice an names.length cn, .slice ac cls.length cc, .slice al levels.length cl, .int .i64 code, .int .i64 env] 31 (0, 0)) from hw1 ▸ blk_old (blk_new w _ rfl))
  have KR := Lib.hid (show w1.heap[w.heap.size + 1]? = some (.cells #[.int .i64 0, .slice none 0 0, .slice none 0 0, .slice none 0 0, .slice none 0 0, .slice none 0 0, .int .i64 0, .int .i64 0] 31 (0, 0)) from hw1 ▸ hsz ▸ blk_new (w.alloc (.cells #[.int .i64 kk, .slice ai n ci, .slice ap parts.length cp, .slice an names.length cn, .slice ac cls.length cc, .slice al levels.length cl, .int .i64 code, .int .i64 env] 31)) (.cells #[.int .i64 0, .slice none 0 0, .slice none 0 0, .slice none 0 0, .slice none 0 0, .slice none 0 0, .int .i64 0, .int .i64 0] 31) rfl)
  rw [hw1]
  clear hw1 hsz
  with_reducible refine (C1.out _ B1.out).mono ?_
  rintro e wb ⟨rfl, b⟩
  have B2 := Lib.hid (below_then B1.out b)
  have KA := Lib.hid (blk_below b KA.out)
  have KR := Lib.hid (blk_below b KR.out)
  clear b
  by_cases hs : atmS VV = ⟨#[]⟩
  · have XV1 := Lib.hid (XV.out hs)
    have XS1 := Lib.hid hs
    have XA1 := Lib.hid (XA.out hs)
    have CP := Lib.hid (CP.out XA1.out.1 XA1.out.2.1 XA1.out.2.2.1 XA1.out.2.2.2.1)
    have SV := SV.out XA1.out.2.2.1
    have hl := XA1.out.2.2.2.2
    rw [hs]
    clear hs XV XA XA1
    obtain ⟨w3, hw3⟩ : ∃ W, wb.alloc (.cells #[] 3) = W := ⟨_, rfl⟩
    have ST := Lib.hid (show IntZ wb w3 (pzZ (uqP items) 0) (.slice (some ⟨wb.heap.size, 0, none⟩) 0 0) from hw3 ▸ IntZ.nil0 wb wb (Below.refl _ _))
    have hwa := (Array.getElem?_eq_some_iff.1 KA.out).1
    have hwr := (Array.getElem?_eq_some_iff.1 KR.out).1
    obtain ⟨k0, k1, k2, k3, k4, k5, k6, k7⟩ := vec8 KA.out
    have EW := Lib.hid hw3
    clear hw3
    go_wp2
    rw [EW.out]
    clear EW
    go_loopw [5, 6] (fun v i wr => ∃ k : Nat, k ≤ n ∧ i = .int .i64 k ∧ IntZ wb wr (pzZ (uqP items) k) v) (fun _ i _ => n - (intOf i).toNat)
    case atStart => exact ⟨0, Nat.zero_le _, rfl, ST.out⟩
    case round =>
      obtain ⟨k, hk, rfl, hir⟩ := hrel
      have IR := Lib.hid hir
      clear hir
      have BW := Lib.hid (below_then B2.out IR.out.below)
      have KA := Lib.hid (blk_below IR.out.below KA.out)
      by_cases hlt : k < n
      · obtain ⟨ba, off, rfl, hbB, c0, c1, c2'⟩ := AI.out k wb hlt B2.out
        have c2 : wb.cell? ⟨ba, off + k * 3 + 2, none⟩ = some (.string (items.getD k noI).t) := c2'
        have hbwb : ba < wb.heap.size := Nat.lt_of_lt_of_le (Nat.lt_of_lt_of_le hbB hhi) B2.out.size
        have UY := Lib.hid (UY.out k hlt)
        have UN := Lib.hid (UN.out k hlt)
        have LN := Lib.hid (show (pzZ (uqP items) k).length ≤ 1048576 by have := LE.out k; omega)
        obtain ⟨y, hy⟩ : ∃ y, items.getD k noI = y := ⟨_, rfl⟩
        rw [hy] at c0 c1 c2 UY UN
        have CF := Lib.hid (fun w1 (hb : Below wb.heap.size wb w1) => CF.out y w1 (below_then B2.out hb))
        have H := Lib.hid (show HeldC wb wr [] from ⟨IR.out.below, (fun _ h => by cases h)⟩)
        obtain ⟨m0, m1, m2, m3, m4, m5, m6, m7⟩ := vec8 KA.out
        clear hy c2' XV1 XS1
        cases hp : uqP items k with
        | true =>
          have RK := Lib.hid (UY.out hp)
          have NX := Lib.hid (YS.out k hp)
          clear hp
          go_upto_region 8 with (fail)
          clear m0 m1 m2 m3 m4 m5 m6 m7
          refine run_region (ops := (opsOf Try.f31 8)) (S := fun w' => HeldC wb w' ([])) [(0, true), (1, true), (2, true), (3, true), (4, true), (5, true), (6, true), (8, true), (7, false), (9, true)] (by kernel_rfl) (by kernel_rfl) (by kernel_rfl) (by kernel_rfl) (by kernel_rfl) (fun _ _ _ _ _ h => h) (heldC_drew H.out) ?_
          have H := Lib.hid (heldC_drew H.out)
          have IR := Lib.hid (IR.out.keep (below_drew' (Below.refl _ _)))
          refine runC_partV (b := w.heap.size) (by kernel_rfl) (show opAt (opsOf Try.f31 8) 0 = some (some 22, .fieldAddr 31 (.tmp 1) 1, none) from by kernel_rfl) (by kernel_rfl) (by kernel_rfl) (by kernel_rfl) ?_
          refine runC_old (b := w.heap.size) (j := 1) (v := .slice (some ⟨ba, off, none⟩) n ci) load_its (show opAt (opsOf Try.f31 8) 1 = some (some 23, .load 28 (.tmp 22), none) from by kernel_rfl) (by kernel_rfl) (by kernel_rfl) (by kernel_rfl) hwa k1 ?_
          refine runC_partV (b := w.heap.size) (by kernel_rfl) (show opAt (opsOf Try.f31 8) 2 = some (some 24, .fieldAddr 31 (.tmp 1) 1, none) from by kernel_rfl) (by kernel_rfl) (by kernel_rfl) (by kernel_rfl) ?_
          refine runC_old (b := w.heap.size) (j := 1) (v := .slice (some ⟨ba, off, none⟩) n ci) load_its (show opAt (opsOf Try.f31 8) 3 = some (some 25, .load 28 (.tmp 24), none) from by kernel_rfl) (by kernel_rfl) (by kernel_rfl) (by kernel_rfl) hwa k1 ?_
          refine run_mov (v := .int .i64 ((k : Int))) (show opAt (opsOf Try.f31 8) 4 = some (some 26, .move (.tmp 6), none) from by kernel_rfl) (by kernel_rfl) (by kernel_rfl) (by kernel_rfl) ?_
          refine run_idx3 (n := n) (c := ci) (b := ba) (off := off) (k := k) (show opAt (opsOf Try.f31 8) 5 = some (some 27, .indexAddr 28 (.tmp 25) (.tmp 26), none) from by kernel_rfl) (by kernel_rfl) (by kernel_rfl) (by kernel_rfl) (by kernel_rfl) hlt ?_
          refine runC_oldI (b := ba) (j := off + k * 3) (z := y) (show opAt (opsOf Try.f31 8) 6 = some (some 28, .load 67 (.tmp 27), none) from by kernel_rfl) (by kernel_rfl) (by kernel_rfl) (by kernel_rfl) hbwb c0 c1 c2 ?_
          refine run_mov (v := .int .i64 ((k : Int))) (show opAt (opsOf Try.f31 8) 8 = some (some 30, .move (.tmp 6), none) from by kernel_rfl) (by kernel_rfl) (by kernel_rfl) (by kernel_rfl) ?_
          refine run_call (args := [.slice (some ⟨ba, off, none⟩) n ci, .agg #[.int .i64 y.n, .int .i64 y.d, .string y.t]]) (show opAt (opsOf Try.f31 8) 7 = some (some 29, .call { callee := .value (.func 64), args := [(.tmp 23), (.tmp 28)].toArray, argTypes := [28, 67].toArray }, none) from by kernel_rfl) (by kernel_rfl) (by kernel_rfl) (by kernel_rfl) (by kernel_rfl) ?_
          refine (CF.out _ H.out.1).mono ?_
          rintro en rw1 ⟨r, hr, rfl, hb⟩
          have hrk := RK.out r hr
          refine ⟨_, rfl, heldC_call H.out hb, ?_⟩
          have H := Lib.hid (heldC_call H.out hb)
          have IR := Lib.hid (IR.out.keep hb)
          clear hr hb
          refine run_cmp (k := .i64) (p := r) (q := (k : Int)) (b := true) (show opAt (opsOf Try.f31 8) 9 = some (some 31, .binOp .eql 3 (.tmp 29) (.tmp 30) 3, none) from by kernel_rfl) (by kernel_rfl) (by kernel_rfl) (by kernel_rfl) (by kernel_rfl) (congrArg some (beq_iff_eq.2 hrk)) ?_
          refine run_done ?_
          simp only [putAll, Act.put, List.setIfInBounds_toArray, List.set_cons_zero, List.set_cons_succ]
          go_wp2_with (at_builtin; go_loud (refine wpList_appInt rfl _ _ rfl ((k : Int) + 1) (pzZ (uqP items) k) _ _ rfl rfl (IR.out.keep (below1 _ _)) (blk_new _ _ rfl) LN.out ?_))
          intro v' w3 hir
          have IN := Lib.hid (NX.out ▸ hir)
          clear hir
          go_wp2
          go_roundw
          case rel => exact ⟨k + 1, by omega, by go_num, IN.out⟩
          case measure => simp [intOf]; omega
        | false =>
          have RK := Lib.hid (UN.out hp)
          have NX := Lib.hid (NS.out k hp)
          clear hp
          go_upto_region 8 with (fail)
          clear m0 m1 m2 m3 m4 m5 m6 m7
          refine run_region (ops := (opsOf Try.f31 8)) (S := fun w' => HeldC wb w' ([])) [(0, true), (1, true), (2, true), (3, true), (4, true), (5, true), (6, true), (8, true), (7, false), (9, true)] (by kernel_rfl) (by kernel_rfl) (by kernel_rfl) (by kernel_rfl) (by kernel_rfl) (fun _ _ _ _ _ h => h) (heldC_drew H.out) ?_
          have H := Lib.hid (heldC_drew H.out)
          have IR := Lib.hid (IR.out.keep (below_drew' (Below.refl _ _)))
          refine runC_partV (b := w.heap.size) (by kernel_rfl) (show opAt (opsOf Try.f31 8) 0 = some (some 22, .fieldAddr 31 (.tmp 1) 1, none) from by kernel_rfl) (by kernel_rfl) (by kernel_rfl) (by kernel_rfl) ?_
          refine runC_old (b := w.heap.size) (j := 1) (v := .slice (some ⟨ba, off, none⟩) n ci) load_its (show opAt (opsOf Try.f31 8) 1 = some (some 23, .load 28 (.tmp 22), none) from by kernel_rfl) (by kernel_rfl) (by kernel_rfl) (by kernel_rfl) hwa k1 ?_
          refine runC_partV (b := w.heap.size) (by kernel_rfl) (show opAt (opsOf Try.f31 8) 2 = some (some 24, .fieldAddr 31 (.tmp 1) 1, none) from by kernel_rfl) (by kernel_rfl) (by kernel_rfl) (by kernel_rfl) ?_
          refine runC_old (b := w.heap.size) (j := 1) (v := .slice (some ⟨ba, off, none⟩) n ci) load_its (show opAt (opsOf Try.f31 8) 3 = some (some 25, .load 28 (.tmp 24), none) from by kernel_rfl) (by kernel_rfl) (by kernel_rfl) (by kernel_rfl) hwa k1 ?_
          refine run_mov (v := .int .i64 ((k : Int))) (show opAt (opsOf Try.f31 8) 4 = some (some 26, .move (.tmp 6), none) from by kernel_rfl) (by kernel_rfl) (by kernel_rfl) (by kernel_rfl) ?_
          refine run_idx3 (n := n) (c := ci) (b := ba) (off := off) (k := k) (show opAt (opsOf Try.f31 8) 5 = some (some 27, .indexAddr 28 (.tmp 25) (.tmp 26), none) from by kernel_rfl) (by kernel_rfl) (by kernel_rfl) (by kernel_rfl) (by kernel_rfl) hlt ?_
          refine runC_oldI (b := ba) (j := off + k * 3) (z := y) (show opAt (opsOf Try.f31 8) 6 = some (some 28, .load 67 (.tmp 27), none) from by kernel_rfl) (by kernel_rfl) (by kernel_rfl) (by kernel_rfl) hbwb c0 c1 c2 ?_
          refine run_mov (v := .int .i64 ((k : Int))) (show opAt (opsOf Try.f31 8) 8 = some (some 30, .move (.tmp 6), none) from by kernel_rfl) (by kernel_rfl) (by kernel_rfl) (by kernel_rfl) ?_
          refine run_call (args := [.slice (some ⟨ba, off, none⟩) n ci, .agg #[.int .i64 y.n, .int .i64 y.d, .string y.t]]) (show opAt (opsOf Try.f31 8) 7 = some (some 29, .call { callee := .value (.func 64), args := [(.tmp 23), (.tmp 28)].toArray, argTypes := [28, 67].toArray }, none) from by kernel_rfl) (by kernel_rfl) (by kernel_rfl) (by kernel_rfl) (by kernel_rfl) ?_
          refine (CF.out _ H.out.1).mono ?_
          rintro en rw1 ⟨r, hr, rfl, hb⟩
          have hrk := RK.out r hr
          refine ⟨_, rfl, heldC_call H.out hb, ?_⟩
          have H := Lib.hid (heldC_call H.out hb)
          have IR := Lib.hid (IR.out.keep hb)
          clear hr hb
          refine run_cmp (k := .i64) (p := r) (q := (k : Int)) (b := false) (show opAt (opsOf Try.f31 8) 9 = some (some 31, .binOp .eql 3 (.tmp 29) (.tmp 30) 3, none) from by kernel_rfl) (by kernel_rfl) (by kernel_rfl) (by kernel_rfl) (by kernel_rfl) (congrArg some (beq_eq_false_iff_ne.2 hrk)) ?_
          refine run_done ?_
          simp only [putAll, Act.put, List.setIfInBounds_toArray, List.set_cons_zero, List.set_cons_succ]
          have IN := Lib.hid (NX.out ▸ IR.out)
          go_wp2
          go_roundw
          case rel => exact ⟨k + 1, by omega, by go_num, IN.out⟩
          case measure => simp [intOf]; omega
      · obtain rfl : k = n := by omega
        have KR := Lib.hid (blk_below IR.out.below KR.out)
        have hr3 := Nat.lt_of_lt_of_le hwr IR.out.below.size
        obtain ⟨sa, c, rfl, hi'⟩ := IR.out.ints
        have HI := Lib.hid (by rw [EL.out] at hi'; exact hi'.congr IX.out : IntsAt wr.heap.size wr sa ix.length (fun i => ixF ix i + 1))
        have EL2 := EL.out
        rw [EL2]
        clear hi' IR EL EL2
        obtain ⟨m0, m1, m2, m3, m4, m5, m6, m7⟩ := vec8 KA.out
        go_wp2_with fail
        refine (CP.out _ _ _ BW.out HI.out).mono ?_
        rintro e w5 ⟨y, rfl, ho, hb⟩
        obtain ⟨yk, ya1, yn1, ym1, ya2, yn2, ym2, ya3, yn3, ym3, ya4, yn4, ym4, ya5, yn5, ym5, yc, ye, rfl⟩ := ho.agg
        have B5 := Lib.hid (below_then BW.out hb)
        have KR := Lib.hid (blk_below hb KR.out)
        rw [SV] at ho
        clear SV
        have HO := Lib.hid ho
        clear ho hb m0 m1 m2 m3 m4 m5 m6 m7
        have hrb := (Array.getElem?_eq_some_iff.1 KR.out).1
        go_upto_region 12 with (fail)
        obtain ⟨w6, hw6⟩ : ∃ W, (w5.alloc (.cells #[.int .i64 yk, .slice ya1 yn1 ym1, .slice ya2 yn2 ym2, .slice (some ⟨w5.heap.size + 1, 0, none⟩) 0 0, .slice ya4 yn4 ym4, .slice ya5 yn5 ym5, .int .i64 yc, .int .i64 ye] 31)).alloc (.cells #[] 9) = W := ⟨_, rfl⟩
        have N6 := Lib.hid (show w6.heap[w5.heap.size]? = some (.cells #[.int .i64 yk, .slice ya1 yn1 ym1, .slice ya2 yn2 ym2, .slice (some ⟨w5.heap.size + 1, 0, none⟩) 0 0, .slice ya4 yn4 ym4, .slice ya5 yn5 ym5, .int .i64 yc, .int .i64 ye] 31 (0, 0)) from hw6 ▸ blk_old (blk_new w5 _ rfl))
        have BB := Lib.hid (show Below w5.heap.size w5 w6 from hw6 ▸ (below1 w5 _).alloc (by simp) _)
        have B6 := Lib.hid (below_then B5.out BB.out)
        have KR := Lib.hid (blk_below BB.out KR.out)
        have O := Lib.hid ((HO.out.noNames (some ⟨w5.heap.size + 1, 0, none⟩) 0).below BB.out (Nat.le_refl _))
        have hs6 := BB.out.size
        rw [hw6]
        clear hw6 BB HO
        obtain ⟨n0, n1, n2, n3, n4, n5, n6, n7⟩ := vec8 N6.out
        obtain ⟨z0, z1, z2, z3, z4, z5, z6, z7⟩ := vec8 KR.out
        obtain ⟨f0, f1, f2, f3, f4, f5, f6, f7⟩ := free8 KR.out
        go_wp2
        rw [XV1.out, XS1.out]
        exact vec_endS rfl rfl rfl rfl KR.out ⟨_, rfl, (O.out.put8 (by omega) _ _ _ _ _ _ _ _).wide (by omega) (by rw [put8_size]; omega), put8_below B6.out (Nat.le_succ _)⟩
  · have XV1 := Lib.hid (uqV_no hs)
    obtain ⟨R, hR⟩ : ∃ R, atmS VV = R := ⟨_, rfl⟩
    have XS1 := Lib.hid hR
    rw [hR] at hs ⊢
    have hRb : (R.toList == []) = false := by have h := str_not hs; rw [ByteArray.toList_eq ⟨#[]⟩] at h; exact h
    clear hs hR
    obtain ⟨z0, z1, z2, z3, z4, z5, z6, z7⟩ := vec8 KR.out
    obtain ⟨f0, f1, f2, f3, f4, f5, f6, f7⟩ := free8 KR.out
    go_wp2
    rw [XV1.out, XS1.out]
    exact vec_endS rfl rfl rfl rfl KR.out (zeroSD _ _ w _ (put8_below B2.out (Nat.le_succ _)))
end Go.Proofs.Ytfbpbpbmnieieaa
