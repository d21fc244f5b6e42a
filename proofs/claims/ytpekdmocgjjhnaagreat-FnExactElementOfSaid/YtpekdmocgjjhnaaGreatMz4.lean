/- The reference's l4Pick: parts of a list at positions within its length. -/
import Derived.Test.YtpekdmocgjjhnaaGreatRows
import Derived.Test.YtpekdmocgjjhnaaGreatMz3
import Derived.Test.YtpekdmocgjjhnaaGreatMz2
import Derived.Test.YtpekdmocgjjhnaaGreatMz1
import Derived.Maps.AppendAt
import Derived.WalkKit
import Derived.OwnWalk
import Derived.Deep.DeepCutAuto
import Derived.Lib.Hide
import Derived.IntWalk
namespace Go.Proofs.YtpekdmocgjjhnaaGreat
open Go.RowKit
set_option maxRecDepth 100000
set_option linter.unusedVariables false

set_option maxHeartbeats 8000000 in
theorem specPickP (d : Nat) (items : List It) (parts : List Vec) (names cls levels : List ByteArray) (code env : Int) (ai ap an ac al xi : Option Addr) (ci cp cn cc cl xc lo hi B : Nat) (idx : List Nat) (w : World) (hP : VecsAt lo hi w d ap parts) (hN : TextsAt lo hi w an names) (hhi : hi ≤ w.heap.size)
    (li : items.length = 0) (lp : parts.length ≤ 1048576) (ln : names.length ≤ 1048576) (ll : levels.length = 0) (hsm : ∀ p ∈ parts, Small d p) (hall : ∀ i, i < parts.length → AllIs d (parts.getD i noV) ∧ (partsV (parts.getD i noV)).length ≤ 41) (hs : IntsAt B w xi idx.length (fun i => ixF idx i + 1)) (hB : B ≤ w.heap.size) (hn : idx.length ≤ 1048576)
    (hin : ∀ i, i < idx.length → idx.getD i 0 < parts.length) (hnm : names.length ≠ 0 → names.length = parts.length) :
    Calls Tryz.prog 22 #[.agg #[.int .i64 4, .slice ai items.length ci, .slice ap parts.length cp, .slice an names.length cn, .slice ac cls.length cc, .slice al levels.length cl, .int .i64 code, .int .i64 env], .slice xi idx.length xc] w (ResV (d + 1) (selV 4 items parts names cls levels idx) w) := by
  have AI := Lib.hid (fun (k : Nat) (hk : k < parts.length) => hP.at_ hk)
  have CP := Lib.hid (fun (k : Nat) (w1 : World) (x : Value) (hk : k < parts.length) (hb : Below w.heap.size w w1) (hv : VecAt lo hi w d (parts.getD k noV) x) => (scvAll d).out _ x lo hi w1 (hv.below hb hhi) (Nat.le_trans hhi hb.size) (hsm _ (by rw [List.getD_eq_getElem?_getD, List.getElem?_eq_getElem hk]; exact List.getElem_mem hk)) (hall k hk).1 (hall k hk).2)
  have AN := Lib.hid (fun (k : Nat) (w1 : World) (hk : k < names.length) (hb : Below w.heap.size w w1) => (show ∃ b off, an = some ⟨b, off, none⟩ ∧ b < hi ∧ w1.cell? ⟨b, off + k, none⟩ = some (.string (names.getD k ⟨#[]⟩)) from (by obtain ⟨b, off, e, _, h1, h2⟩ := (hN.below hb hhi) k (names.getD k ⟨#[]⟩) (by simp [List.getD_eq_getElem?_getD, hk]); exact ⟨b, off, e, h1, h2⟩)))
  have SA := Lib.hid hs
  have IN := Lib.hid hin
  have LE := Lib.hid (fun W => (by have h := specLen 4 ai ap an ac al items.length ci parts.length cp names.length cn cls.length cc levels.length cl code env W (by omega) lp; rw [show lenV 4 items.length parts.length = parts.length by unfold lenV; rw [if_neg (by decide)]; omega] at h; exact h : Calls Tryz.prog 20 #[.agg #[.int .i64 4, .slice ai items.length ci, .slice ap parts.length cp, .slice an names.length cn, .slice ac cls.length cc, .slice al levels.length cl, .int .i64 code, .int .i64 env]] W (fun e w' => e = .returned (.int .i64 (parts.length : Nat)) ∧ Below W.heap.size W w')))
  have PI := Lib.hid (fun k (h : parts.length ≠ 0) (hk : k < idx.length) => pkT_succ (z := noV) (l := parts) h hk)
  have PN := Lib.hid (fun k (h : names.length ≠ 0) (hk : k < idx.length) => pkT_succ (z := ⟨#[]⟩) (l := names) h hk)
  have P0 := Lib.hid (fun (h : names.length = 0) k => (pkT_nil (z := ⟨#[]⟩) h (idx.take k) : pkL ⟨#[]⟩ names (idx.take k) = []))
  have EV := Lib.hid (show selV 4 items parts names cls levels idx = .mk 4 [] (pkL noV parts (idx.take idx.length)) (clnN (pkL ⟨#[]⟩ names (idx.take idx.length))) (kpC levels cls) levels 0 0 by rw [pkT_full, pkT_full]; unfold selV; rw [pkT_nil (z := noI) li])
  have LI := Lib.hid (pkT_len noV parts idx)
  have LM := Lib.hid (pkT_len ⟨#[]⟩ names idx)
  have EK0 := Lib.hid (fun (h : levels.length = 0) => (by rw [List.eq_nil_of_length_eq_zero h]; exact ⟨rfl, rfl⟩ : levels = [] ∧ kpC levels cls = []))
  have UST := Lib.hid (fun W => Und.start (w.heap.size + 1 + 1 + 1) W d)
  obtain ⟨V, hV⟩ : ∃ V, selV 4 items parts names cls levels idx = V := ⟨_, rfl⟩
  rw [hV] at EV ⊢
  obtain ⟨m, hm⟩ : ∃ m, idx.length = m := ⟨_, rfl⟩
  rw [hm] at SA IN PI PN EV hn ⊢
  obtain ⟨n, hn'⟩ : ∃ n, parts.length = n := ⟨_, rfl⟩
  rw [hn'] at AI CP IN LE PI lp hnm ⊢
  obtain ⟨nn, hnn⟩ : ∃ n, names.length = n := ⟨_, rfl⟩
  rw [hnn] at AN LE PN P0 ln hnm ⊢
  have LI0 := Lib.hid li
  have LL0 := Lib.hid ll
  clear hV hm hn' hnn hP hN hs hin li ll hsm hall
  go_enter Tryz.func22, Tryz.ntmps22
  go_upto_region 2 with (fail)
  obtain ⟨w1, hw1⟩ : ∃ W, ((w.alloc (.cells #[.int .i64 4, .slice ai items.length ci, .slice ap n cp, .slice an nn cn, .slice ac cls.length cc, .slice al levels.length cl, .int .i64 code, .int .i64 env] 31)).alloc (.cells #[.int .i64 0, .slice none 0 0, .slice none 0 0, .slice none 0 0, .slice none 0 0, .slice none 0 0, .int .i64 0, .int .i64 0] 31)).alloc (.cells #[.int .i64 4, .slice none 0 0, .slice none 0 0, .slice none 0 0, .slice none 0 0, .slice none 0 0, .int .i64 0, .int .i64 0] 31) = W := ⟨_, rfl⟩
  have hsz : (w.alloc (.cells #[.int .i64 4, .slice ai items.length ci, .slice ap n cp, .slice an nn cn, .slice ac cls.length cc, .slice al levels.length cl, .int .i64 code, .int .i64 env] 31)).heap.size = w.heap.size + 1 := by simp
  have hsz2 : ((w.alloc (.cells #[.int .i64 4, .slice ai items.length ci, .slice ap n cp, .slice an nn cn, .slice ac cls.length cc, .slice al levels.length cl, .int .i64 code, .int .i64 env] 31)).alloc (.cells #[.int .i64 0, .slice none 0 0, .slice none 0 0, .slice none 0 0, .slice none 0 0, .slice none 0 0, .int .i64 0, .int .i64 0] 31)).heap.size = w.heap.size + 1 + 1 := by simp
  have BW := Lib.hid (show Below w.heap.size w w1 from hw1 ▸ ((below1 w _).alloc (by simp) _).alloc (by simp; omega) _)
  have KA := Lib.hid (show w1.heap[w.heap.size]? = some (.cells #[.int .i64 4, .slice ai items.length ci, .slice ap n cp, .slice an nn cn, .slice ac cls.length cc, .slice al levels.length cl, .int .i64 code, .int .i64 env] 31 (0, 0)) from hw1 ▸ blk_old (blk_old (blk_new w _ rfl)))
  have KR := Lib.hid (show w1.heap[w.heap.size + 1]? = some (.cells #[.int .i64 0, .slice none 0 0, .slice none 0 0, .slice none 0 0, .slice none 0 0, .slice none 0 0, .int .i64 0, .int .i64 0] 31 (0, 0)) from hw1 ▸ blk_old (hsz ▸ blk_new (w.alloc (.cells #[.int .i64 4, .slice ai items.length ci, .slice ap n cp, .slice an nn cn, .slice ac cls.length cc, .slice al levels.length cl, .int .i64 code, .int .i64 env] 31)) (.cells #[.int .i64 0, .slice none 0 0, .slice none 0 0, .slice none 0 0, .slice none 0 0, .slice none 0 0, .int .i64 0, .int .i64 0] 31) rfl))
  have KB := Lib.hid (show w1.heap[w.heap.size + 1 + 1]? = some (.cells #[.int .i64 4, .slice none 0 0, .slice none 0 0, .slice none 0 0, .slice none 0 0, .slice none 0 0, .int .i64 0, .int .i64 0] 31 (0, 0)) from hw1 ▸ hsz2 ▸ blk_new ((w.alloc (.cells #[.int .i64 4, .slice ai items.length ci, .slice ap n cp, .slice an nn cn, .slice ac cls.length cc, .slice al levels.length cl, .int .i64 code, .int .i64 env] 31)).alloc (.cells #[.int .i64 0, .slice none 0 0, .slice none 0 0, .slice none 0 0, .slice none 0 0, .slice none 0 0, .int .i64 0, .int .i64 0] 31)) (.cells #[.int .i64 4, .slice none 0 0, .slice none 0 0, .slice none 0 0, .slice none 0 0, .slice none 0 0, .int .i64 0, .int .i64 0] 31) rfl)
  rw [hw1]
  clear hw1 hsz hsz2
  have hrb : w.heap.size + 1 < w.heap.size + 1 + 1 := Nat.lt_succ_self _
  have hbw : w.heap.size < w.heap.size + 1 + 1 := by omega
  obtain ⟨b, hb⟩ : ∃ b, w.heap.size + 1 + 1 = b := ⟨_, rfl⟩
  rw [hb] at KB UST hrb hbw ⊢
  clear hb
  have hl0 : ((levels.length : Nat) : Int) ≤ 0 := by have := LL0.out; omega
  have U := Lib.hid (show Und (b + 1) w1 d [] [] [] (kpC levels cls) levels _ _ _ _ _ [] from by obtain ⟨e1, e2⟩ := EK0.out LL0.out; rw [e2, e1]; exact UST.out w1)
  obtain ⟨a0, a1, a2, a3, a4, a5, a6, a7⟩ := vec8 KA.out
  go_wp2
  clear a0 a1 a2 a3 a4 a5 a6 a7 hl0
  obtain ⟨dv, hdv⟩ : ∃ dv, decide (0 < levels.length) = dv := ⟨_, rfl⟩
  try rw [hdv]
  clear hdv
  have W0 := Lib.hid (show w.heap.size ≤ b + 1 by omega)
  have B0' := Lib.hid (show w.heap.size ≤ b by omega)
  go_loopw [6] (fun i wr => ∃ (k : Nat) (vp vn : Value) (X : List Nat), k ≤ m ∧ i = .int .i64 k ∧ Below w.heap.size w wr ∧ wr.heap[w.heap.size]? = some (.cells #[.int .i64 4, .slice ai items.length ci, .slice ap n cp, .slice an nn cn, .slice ac cls.length cc, .slice al levels.length cl, .int .i64 code, .int .i64 env] 31 (0, 0)) ∧ wr.heap[w.heap.size + 1]? = some (.cells #[.int .i64 0, .slice none 0 0, .slice none 0 0, .slice none 0 0, .slice none 0 0, .slice none 0 0, .int .i64 0, .int .i64 0] 31 (0, 0)) ∧ wr.heap[b]? = some (.cells #[.int .i64 4, .slice none 0 0, vp, vn, .slice none 0 0, .slice none 0 0, .int .i64 0, .int .i64 0] 31 (0, 0)) ∧ Und (b + 1) wr d [] (pkL noV parts (idx.take k)) (pkL ⟨#[]⟩ names (idx.take k)) (kpC levels cls) levels (.slice none 0 0) vp vn (.slice none 0 0) (.slice none 0 0) X) (fun i _ => m - (intOf i).toNat)
  case atStart => exact ⟨0, .slice none 0 0, .slice none 0 0, [], Nat.zero_le _, rfl, BW.out, KA.out, KR.out, KB.out, by rw [pkT_zero, pkT_zero]; exact U.out⟩
  case round =>
    obtain ⟨k, vp, vn, X, hk, rfl, hbw', hka, hkr, hkb, hu⟩ := hrel
    have BW := Lib.hid hbw'
    have KA := Lib.hid hka
    have KR := Lib.hid hkr
    have KB := Lib.hid hkb
    have U := Lib.hid hu
    clear hbw' hka hkr hkb hu
    by_cases hlt : k < m
    · obtain ⟨bi, oi, rfl, hbi, cx⟩ := (SA.out.below (BW.out.mono hB)) k hlt
      have hq := IN.out k hlt
      have NXI := Lib.hid (PI.out k (by omega) hlt)
      replace cx := (show wr.cell? ⟨bi, oi + k, none⟩ = some (.int .i64 (((idx.getD k 0 : Nat) : Int) + 1)) from cx)
      have PNk := Lib.hid (fun h => PN.out k h hlt)
      obtain ⟨q, hq'⟩ : ∃ q, idx.getD k 0 = q := ⟨_, rfl⟩
      rw [hq'] at cx hq NXI PNk
      clear hq'
      have IY := Lib.hid (fun W => inYes (q : Int) 0 ((n : Int) - 1) W (by omega) (by omega))
      obtain ⟨bp, offp, u0, u1, u2, u3, u4, u5, u6, u7, rfl, hbP, hvp, p0, p1, p2, p3, p4, p5, p6, p7⟩ := AI.out q hq
      have hbpw : bp < w.heap.size := Nat.lt_of_lt_of_le hbP hhi
      have CC := Lib.hid (fun (W : World) (hb : Below w.heap.size w W) => CP.out q W _ hq hb hvp)
      obtain ⟨x, hx⟩ : ∃ x, parts.getD q noV = x := ⟨_, rfl⟩
      rw [hx] at CC NXI
      clear hx hvp
      obtain ⟨a0, a1, a2, a3, a4, a5, a6, a7⟩ := vec8 KA.out
      go_wp2_with fail
      with_reducible refine (LE.out _).mono ?_
      rintro e wl ⟨rfl, b'⟩
      have BW := Lib.hid (below_then BW.out b')
      have KA := Lib.hid (blk_below b' KA.out)
      have KR := Lib.hid (blk_below b' KR.out)
      have KB := Lib.hid (blk_below b' KB.out)
      have U := Lib.hid (U.out.below b')
      clear b' a0 a1 a2 a3 a4 a5 a6 a7
      go_wp2_with fail
      with_reducible refine (IY.out _).mono ?_
      rintro e w' ⟨rfl, rfl⟩
      obtain ⟨a0, a1, a2, a3, a4, a5, a6, a7⟩ := vec8 KA.out
      have hbl := (Array.getElem?_eq_some_iff.1 KB.out).1
      by_cases h0 : nn = 0
      · have e0 := P0.out h0 (k + 1)
        have e1 := P0.out h0 k
        have hn0 : (nn : Int) ≤ 0 := by omega
        have H0 := Lib.hid h0
        clear h0
        have LN := Lib.hid (show (pkL noV parts (idx.take k)).length ≤ 1048576 by have := LI.out k; omega)
        have FAR := Lib.hid U.out.pb.2
        have H := Lib.hid (show HeldC w wl ([(w.heap.size, 31, #[.int .i64 4, .slice ai items.length ci, .slice (some ⟨bp, offp, none⟩) n cp, .slice an nn cn, .slice ac cls.length cc, .slice al levels.length cl, .int .i64 code, .int .i64 env]), (b, 31, #[.int .i64 4, .slice none 0 0, vp, vn, .slice none 0 0, .slice none 0 0, .int .i64 0, .int .i64 0])]) from heldC_cons (heldC_cons ⟨BW.out, (fun _ h => by cases h)⟩ KB.out) KA.out)
        have KRW := KR
        go_upto_region 11 with (fail)
        clear a0 a1 a2 a3 a4 a5 a6 a7
        refine run_region (ops := (opsOf Tryz.f22 11)) (S := fun w' => HeldC w w' ([(w.heap.size, 31, #[.int .i64 4, .slice ai items.length ci, .slice (some ⟨bp, offp, none⟩) n cp, .slice an nn cn, .slice ac cls.length cc, .slice al levels.length cl, .int .i64 code, .int .i64 env]), (b, 31, #[.int .i64 4, .slice none 0 0, vp, vn, .slice none 0 0, .slice none 0 0, .int .i64 0, .int .i64 0])])) [(0, true), (1, true), (2, true), (3, true), (4, true), (5, true), (6, true), (7, false), (8, false), (9, false), (10, true), (11, false)] (by kernel_rfl) (by kernel_rfl) (by kernel_rfl) (by kernel_rfl) (by kernel_rfl) (fun _ _ _ _ _ h => h) (heldC_drew H.out) ?_
        have H := Lib.hid (heldC_drew H.out)
        have U := Lib.hid (U.out.keep (below_drew' (Below.refl _ _)))
        refine runC_partV (b := b) (by kernel_rfl) (show opAt (opsOf Tryz.f22 11) 0 = some (some 48, .fieldAddr 31 (.tmp 5) 2, none) from by kernel_rfl) (by kernel_rfl) (by kernel_rfl) (by kernel_rfl) ?_
        refine runC_cell (b := b) (j := 2) (v := vp) load_vecs (show opAt (opsOf Tryz.f22 11) 1 = some (some 49, .load 29 (.tmp 48), none) from by kernel_rfl) (by kernel_rfl) (by kernel_rfl) (by kernel_rfl) (List.Mem.tail _ (List.Mem.head _)) rfl ?_
        refine runC_partV (b := w.heap.size) (by kernel_rfl) (show opAt (opsOf Tryz.f22 11) 2 = some (some 50, .fieldAddr 31 (.tmp 2) 2, none) from by kernel_rfl) (by kernel_rfl) (by kernel_rfl) (by kernel_rfl) ?_
        refine runC_cell (b := w.heap.size) (j := 2) (v := .slice (some ⟨bp, offp, none⟩) n cp) load_vecs (show opAt (opsOf Tryz.f22 11) 3 = some (some 51, .load 29 (.tmp 50), none) from by kernel_rfl) (by kernel_rfl) (by kernel_rfl) (by kernel_rfl) (List.Mem.head _) rfl ?_
        refine run_mov (v := .int .i64 ((q : Int))) (show opAt (opsOf Tryz.f22 11) 4 = some (some 52, .move (.tmp 7), none) from by kernel_rfl) (by kernel_rfl) (by kernel_rfl) (by kernel_rfl) ?_
        refine run_idx8 (n := n) (c := cp) (b := bp) (off := offp) (k := q) (show opAt (opsOf Tryz.f22 11) 5 = some (some 53, .indexAddr 29 (.tmp 51) (.tmp 52), none) from by kernel_rfl) (by kernel_rfl) (by kernel_rfl) (by kernel_rfl) (by kernel_rfl) hq ?_
        refine runC_oldV (b := bp) (j := offp + q * 8) (show opAt (opsOf Tryz.f22 11) 6 = some (some 54, .load 31 (.tmp 53), none) from by kernel_rfl) (by kernel_rfl) (by kernel_rfl) (by kernel_rfl) hbpw p0 p1 p2 p3 p4 p5 p6 p7 ?_
        refine run_call (args := [.agg #[u0, u1, u2, u3, u4, u5, u6, u7]]) (show opAt (opsOf Tryz.f22 11) 7 = some (some 55, .call { callee := .value (.func 39), args := [(.tmp 54)].toArray, argTypes := [31].toArray }, none) from by kernel_rfl) (by kernel_rfl) (by kernel_rfl) (by kernel_rfl) (by kernel_rfl) ?_
        refine (CC.out _ H.out.1).mono ?_
        have HLO := Lib.hid (Nat.succ_le_of_lt (Array.getElem?_eq_some_iff.1 (heldC_at H.out (List.Mem.tail _ (List.Mem.head _)))).1)
        rintro en rv1 ⟨y, rfl, ho, hb⟩
        obtain ⟨yk, ya1, yn1, ym1, ya2, yn2, ym2, ya3, yn3, ym3, ya4, yn4, ym4, ya5, yn5, ym5, yc, ye, rfl⟩ := ho.agg
        refine ⟨_, rfl, heldC_call H.out hb, ?_⟩
        have HO := Lib.hid ho
        have H := Lib.hid (heldC_call H.out hb)
        have HB := Lib.hid hb
        have KRW := Lib.hid (blk_below hb KRW.out)
        obtain ⟨vals, Fs, v1, v2, v3, v4, v5⟩ := (U.out.below hb).p.ex
        clear ho hb
        refine tail_vec3 (c0 := .int .i64 yk) (c1 := .slice ya1 yn1 ym1) (c2 := .slice ya2 yn2 ym2) (c3 := .slice ya3 yn3 ym3) (c4 := .slice ya4 yn4 ym4) (c5 := .slice ya5 yn5 ym5) (c6 := .int .i64 yc) (c7 := .int .i64 ye) (by intro u hu; simp only [List.mem_cons, List.not_mem_nil, or_false] at hu; rcases hu with rfl | rfl | rfl | rfl | rfl | rfl | rfl | rfl <;> rfl) (show opAt (opsOf Tryz.f22 11) 8 = some (some 56, .buildSlice 29 1 #[(0, (.tmp 55))], none) from by kernel_rfl) (by kernel_rfl) (by kernel_rfl) (show opAt (opsOf Tryz.f22 11) 9 = some (some 57, .call { callee := .builtin .append, args := [(.tmp 49), (.tmp 56)].toArray, argTypes := [29, 29].toArray }, none) from by kernel_rfl) (by kernel_rfl) (fun _ => by kernel_rfl) (show opAt (opsOf Tryz.f22 11) 10 = some (some 58, .fieldAddr 31 (.tmp 5) 2, none) from by kernel_rfl) (by kernel_rfl) (by kernel_rfl) (fun _ _ => by kernel_rfl) (show opAt (opsOf Tryz.f22 11) 11 = some (none, .store 29 (.tmp 58) (.tmp 57), none) from by kernel_rfl) (by kernel_rfl) (by kernel_rfl) H.out v3 LN.out (Nat.succ_le_of_lt (Array.getElem?_eq_some_iff.1 (heldC_at H.out (List.Mem.tail _ (List.Mem.head _)))).1) W0.out (List.Mem.tail _ (List.Mem.head _)) rfl (Nat.lt_succ_self _) B0'.out (fun q hq => far_two FAR.out (Nat.lt_succ_of_lt hbw) (Nat.lt_succ_self _) hq) ?_
        rintro v' w2 ⟨sa, sn, sc2, rfl⟩ hK hO hB hZ hR hG
        simp only [putAll, Act.put, List.setIfInBounds_toArray, List.set_cons_zero, List.set_cons_succ]
        have KA1 := heldC_at H.out (List.Mem.head _)
        have hwa := (Array.getElem?_eq_some_iff.1 KA1).1
        have hKR := (Array.getElem?_eq_some_iff.1 KRW.out).1
        obtain ⟨X2, hu2⟩ := U.out.snocP HB.out v1 v2 v4 v5 HO.out hO hR (fun g hlo hg hne => hG g hg (by omega) hne) hZ HLO.out
        have U := Lib.hid hu2
        have KA := Lib.hid (show w2.heap[w.heap.size]? = some (.cells #[.int .i64 4, .slice ai items.length ci, .slice (some ⟨bp, offp, none⟩) n cp, .slice an nn cn, .slice ac cls.length cc, .slice al levels.length cl, .int .i64 code, .int .i64 env] 31 (0, 0)) from (hG _ hwa (by omega) (fun e => by have := FAR.out _ e; omega)).trans KA1)
        have KR := Lib.hid (show w2.heap[w.heap.size + 1]? = some (.cells #[.int .i64 0, .slice none 0 0, .slice none 0 0, .slice none 0 0, .slice none 0 0, .slice none 0 0, .int .i64 0, .int .i64 0] 31 (0, 0)) from (hG _ hKR (by omega) (fun e => by have := FAR.out _ e; omega)).trans KRW.out)
        have KB := Lib.hid (show w2.heap[b]? = some (.cells #[.int .i64 4, .slice none 0 0, .slice sa sn sc2, vn, .slice none 0 0, .slice none 0 0, .int .i64 0, .int .i64 0] 31 (0, 0)) from hK)
        have BW := Lib.hid hB
        clear hu2 hK hO hB hR hG hZ H FAR LN KA1 hKR hwa v1 v2 v3 v4 v5 HO HB HLO
        obtain ⟨a0, a1, a2, a3, a4, a5, a6, a7⟩ := vec8 KA.out
        go_wp2
        go_roundw
        case rel => first | exact ⟨k + 1, _, vn, X2, by omega, by go_num, BW.out, KA.out, KR.out, KB.out, by rw [NXI.out, e0]; rw [e1] at U; exact U.out⟩ | ((repeat apply Exists.intro); exact ⟨⟨k + 1, _, vn, X2, by omega, by go_num, BW.out, KA.out, KR.out, KB.out, by rw [NXI.out, e0]; rw [e1] at U; exact U.out⟩, rfl⟩)
        case measure => simp [intOf]; omega
      · have hqn : q < nn := by have := hnm h0; omega
        have hn0 : 0 < (nn : Int) := by omega
        have NXN := Lib.hid (PNk.out h0)
        obtain ⟨bn, offn, rfl, hbN, cn0⟩ := AN.out q w hqn (Below.refl _ _)
        have hbnw : bn < w.heap.size := Nat.lt_of_lt_of_le hbN hhi
        obtain ⟨s, hs⟩ : ∃ s, names.getD q ⟨#[]⟩ = s := ⟨_, rfl⟩
        rw [hs] at cn0 NXN
        clear hs
        have LN := Lib.hid (show (pkL noV parts (idx.take k)).length ≤ 1048576 by have := LI.out k; omega)
        have FAR := Lib.hid U.out.pb.2
        have H := Lib.hid (show HeldC w wl ([(w.heap.size, 31, #[.int .i64 4, .slice ai items.length ci, .slice (some ⟨bp, offp, none⟩) n cp, .slice (some ⟨bn, offn, none⟩) nn cn, .slice ac cls.length cc, .slice al levels.length cl, .int .i64 code, .int .i64 env]), (b, 31, #[.int .i64 4, .slice none 0 0, vp, vn, .slice none 0 0, .slice none 0 0, .int .i64 0, .int .i64 0])]) from heldC_cons (heldC_cons ⟨BW.out, (fun _ h => by cases h)⟩ KB.out) KA.out)
        have KRW := KR
        go_upto_region 11 with (fail)
        clear a0 a1 a2 a3 a4 a5 a6 a7
        refine run_region (ops := (opsOf Tryz.f22 11)) (S := fun w' => HeldC w w' ([(w.heap.size, 31, #[.int .i64 4, .slice ai items.length ci, .slice (some ⟨bp, offp, none⟩) n cp, .slice (some ⟨bn, offn, none⟩) nn cn, .slice ac cls.length cc, .slice al levels.length cl, .int .i64 code, .int .i64 env]), (b, 31, #[.int .i64 4, .slice none 0 0, vp, vn, .slice none 0 0, .slice none 0 0, .int .i64 0, .int .i64 0])])) [(0, true), (1, true), (2, true), (3, true), (4, true), (5, true), (6, true), (7, false), (8, false), (9, false), (10, true), (11, false)] (by kernel_rfl) (by kernel_rfl) (by kernel_rfl) (by kernel_rfl) (by kernel_rfl) (fun _ _ _ _ _ h => h) (heldC_drew H.out) ?_
        have H := Lib.hid (heldC_drew H.out)
        have U := Lib.hid (U.out.keep (below_drew' (Below.refl _ _)))
        refine runC_partV (b := b) (by kernel_rfl) (show opAt (opsOf Tryz.f22 11) 0 = some (some 48, .fieldAddr 31 (.tmp 5) 2, none) from by kernel_rfl) (by kernel_rfl) (by kernel_rfl) (by kernel_rfl) ?_
        refine runC_cell (b := b) (j := 2) (v := vp) load_vecs (show opAt (opsOf Tryz.f22 11) 1 = some (some 49, .load 29 (.tmp 48), none) from by kernel_rfl) (by kernel_rfl) (by kernel_rfl) (by kernel_rfl) (List.Mem.tail _ (List.Mem.head _)) rfl ?_
        refine runC_partV (b := w.heap.size) (by kernel_rfl) (show opAt (opsOf Tryz.f22 11) 2 = some (some 50, .fieldAddr 31 (.tmp 2) 2, none) from by kernel_rfl) (by kernel_rfl) (by kernel_rfl) (by kernel_rfl) ?_
        refine runC_cell (b := w.heap.size) (j := 2) (v := .slice (some ⟨bp, offp, none⟩) n cp) load_vecs (show opAt (opsOf Tryz.f22 11) 3 = some (some 51, .load 29 (.tmp 50), none) from by kernel_rfl) (by kernel_rfl) (by kernel_rfl) (by kernel_rfl) (List.Mem.head _) rfl ?_
        refine run_mov (v := .int .i64 ((q : Int))) (show opAt (opsOf Tryz.f22 11) 4 = some (some 52, .move (.tmp 7), none) from by kernel_rfl) (by kernel_rfl) (by kernel_rfl) (by kernel_rfl) ?_
        refine run_idx8 (n := n) (c := cp) (b := bp) (off := offp) (k := q) (show opAt (opsOf Tryz.f22 11) 5 = some (some 53, .indexAddr 29 (.tmp 51) (.tmp 52), none) from by kernel_rfl) (by kernel_rfl) (by kernel_rfl) (by kernel_rfl) (by kernel_rfl) hq ?_
        refine runC_oldV (b := bp) (j := offp + q * 8) (show opAt (opsOf Tryz.f22 11) 6 = some (some 54, .load 31 (.tmp 53), none) from by kernel_rfl) (by kernel_rfl) (by kernel_rfl) (by kernel_rfl) hbpw p0 p1 p2 p3 p4 p5 p6 p7 ?_
        refine run_call (args := [.agg #[u0, u1, u2, u3, u4, u5, u6, u7]]) (show opAt (opsOf Tryz.f22 11) 7 = some (some 55, .call { callee := .value (.func 39), args := [(.tmp 54)].toArray, argTypes := [31].toArray }, none) from by kernel_rfl) (by kernel_rfl) (by kernel_rfl) (by kernel_rfl) (by kernel_rfl) ?_
        refine (CC.out _ H.out.1).mono ?_
        have HLO := Lib.hid (Nat.succ_le_of_lt (Array.getElem?_eq_some_iff.1 (heldC_at H.out (List.Mem.tail _ (List.Mem.head _)))).1)
        rintro en rv1 ⟨y, rfl, ho, hb⟩
        obtain ⟨yk, ya1, yn1, ym1, ya2, yn2, ym2, ya3, yn3, ym3, ya4, yn4, ym4, ya5, yn5, ym5, yc, ye, rfl⟩ := ho.agg
        refine ⟨_, rfl, heldC_call H.out hb, ?_⟩
        have HO := Lib.hid ho
        have H := Lib.hid (heldC_call H.out hb)
        have HB := Lib.hid hb
        have KRW := Lib.hid (blk_below hb KRW.out)
        obtain ⟨vals, Fs, v1, v2, v3, v4, v5⟩ := (U.out.below hb).p.ex
        clear ho hb
        refine tail_vec3 (c0 := .int .i64 yk) (c1 := .slice ya1 yn1 ym1) (c2 := .slice ya2 yn2 ym2) (c3 := .slice ya3 yn3 ym3) (c4 := .slice ya4 yn4 ym4) (c5 := .slice ya5 yn5 ym5) (c6 := .int .i64 yc) (c7 := .int .i64 ye) (by intro u hu; simp only [List.mem_cons, List.not_mem_nil, or_false] at hu; rcases hu with rfl | rfl | rfl | rfl | rfl | rfl | rfl | rfl <;> rfl) (show opAt (opsOf Tryz.f22 11) 8 = some (some 56, .buildSlice 29 1 #[(0, (.tmp 55))], none) from by kernel_rfl) (by kernel_rfl) (by kernel_rfl) (show opAt (opsOf Tryz.f22 11) 9 = some (some 57, .call { callee := .builtin .append, args := [(.tmp 49), (.tmp 56)].toArray, argTypes := [29, 29].toArray }, none) from by kernel_rfl) (by kernel_rfl) (fun _ => by kernel_rfl) (show opAt (opsOf Tryz.f22 11) 10 = some (some 58, .fieldAddr 31 (.tmp 5) 2, none) from by kernel_rfl) (by kernel_rfl) (by kernel_rfl) (fun _ _ => by kernel_rfl) (show opAt (opsOf Tryz.f22 11) 11 = some (none, .store 29 (.tmp 58) (.tmp 57), none) from by kernel_rfl) (by kernel_rfl) (by kernel_rfl) H.out v3 LN.out (Nat.succ_le_of_lt (Array.getElem?_eq_some_iff.1 (heldC_at H.out (List.Mem.tail _ (List.Mem.head _)))).1) W0.out (List.Mem.tail _ (List.Mem.head _)) rfl (Nat.lt_succ_self _) B0'.out (fun q hq => far_two FAR.out (Nat.lt_succ_of_lt hbw) (Nat.lt_succ_self _) hq) ?_
        rintro v' w2 ⟨sa, sn, sc2, rfl⟩ hK hO hB hZ hR hG
        simp only [putAll, Act.put, List.setIfInBounds_toArray, List.set_cons_zero, List.set_cons_succ]
        have KA1 := heldC_at H.out (List.Mem.head _)
        have hwa := (Array.getElem?_eq_some_iff.1 KA1).1
        have hKR := (Array.getElem?_eq_some_iff.1 KRW.out).1
        obtain ⟨X2, hu2⟩ := U.out.snocP HB.out v1 v2 v4 v5 HO.out hO hR (fun g hlo hg hne => hG g hg (by omega) hne) hZ HLO.out
        have U := Lib.hid hu2
        have KA := Lib.hid (show w2.heap[w.heap.size]? = some (.cells #[.int .i64 4, .slice ai items.length ci, .slice (some ⟨bp, offp, none⟩) n cp, .slice (some ⟨bn, offn, none⟩) nn cn, .slice ac cls.length cc, .slice al levels.length cl, .int .i64 code, .int .i64 env] 31 (0, 0)) from (hG _ hwa (by omega) (fun e => by have := FAR.out _ e; omega)).trans KA1)
        have KR := Lib.hid (show w2.heap[w.heap.size + 1]? = some (.cells #[.int .i64 0, .slice none 0 0, .slice none 0 0, .slice none 0 0, .slice none 0 0, .slice none 0 0, .int .i64 0, .int .i64 0] 31 (0, 0)) from (hG _ hKR (by omega) (fun e => by have := FAR.out _ e; omega)).trans KRW.out)
        have KB := Lib.hid (show w2.heap[b]? = some (.cells #[.int .i64 4, .slice none 0 0, .slice sa sn sc2, vn, .slice none 0 0, .slice none 0 0, .int .i64 0, .int .i64 0] 31 (0, 0)) from hK)
        have BW := Lib.hid hB
        clear hu2 hK hO hB hR hG hZ H FAR LN KA1 hKR hwa v1 v2 v3 v4 v5 HO HB HLO
        obtain ⟨a0, a1, a2, a3, a4, a5, a6, a7⟩ := vec8 KA.out
        have LN := Lib.hid (show (pkL ⟨#[]⟩ names (idx.take k)).length ≤ 1048576 by have := LM.out k; omega)
        have FAR := Lib.hid (fun g hg => (U.out.n.lt g hg).1)
        have H := Lib.hid (show HeldC w w2 ([(w.heap.size, 31, #[.int .i64 4, .slice ai items.length ci, .slice (some ⟨bp, offp, none⟩) n cp, .slice (some ⟨bn, offn, none⟩) nn cn, .slice ac cls.length cc, .slice al levels.length cl, .int .i64 code, .int .i64 env]), (b, 31, #[.int .i64 4, .slice none 0 0, .slice sa sn sc2, vn, .slice none 0 0, .slice none 0 0, .int .i64 0, .int .i64 0])]) from heldC_cons (heldC_cons ⟨BW.out, (fun _ h => by cases h)⟩ KB.out) KA.out)
        have hKR := (Array.getElem?_eq_some_iff.1 KR.out).1
        have KRW := KR
        go_upto_region 18 with (fail)
        clear a0 a1 a2 a3 a4 a5 a6 a7
        refine run_region (ops := (opsOf Tryz.f22 18)) (S := fun w' => HeldC w w' ([(w.heap.size, 31, #[.int .i64 4, .slice ai items.length ci, .slice (some ⟨bp, offp, none⟩) n cp, .slice (some ⟨bn, offn, none⟩) nn cn, .slice ac cls.length cc, .slice al levels.length cl, .int .i64 code, .int .i64 env]), (b, 31, #[.int .i64 4, .slice none 0 0, (.slice sa sn sc2), vn, .slice none 0 0, .slice none 0 0, .int .i64 0, .int .i64 0])])) [(0, true), (1, true), (2, true), (3, true), (4, true), (5, true), (6, true), (7, false), (8, false), (9, true), (10, false)] (by kernel_rfl) (by kernel_rfl) (by kernel_rfl) (by kernel_rfl) (by kernel_rfl) (fun _ _ _ _ _ h => h) (heldC_drew H.out) ?_
        have H := Lib.hid (heldC_drew H.out)
        have U := Lib.hid (U.out.keep (below_drew' (Below.refl _ _)))
        refine runC_partV (b := b) (by kernel_rfl) (show opAt (opsOf Tryz.f22 18) 0 = some (some 92, .fieldAddr 31 (.tmp 5) 3, none) from by kernel_rfl) (by kernel_rfl) (by kernel_rfl) (by kernel_rfl) ?_
        refine runC_cell (b := b) (j := 3) (v := vn) load_strs (show opAt (opsOf Tryz.f22 18) 1 = some (some 93, .load 24 (.tmp 92), none) from by kernel_rfl) (by kernel_rfl) (by kernel_rfl) (by kernel_rfl) (List.Mem.tail _ (List.Mem.head _)) rfl ?_
        refine runC_partV (b := w.heap.size) (by kernel_rfl) (show opAt (opsOf Tryz.f22 18) 2 = some (some 94, .fieldAddr 31 (.tmp 2) 3, none) from by kernel_rfl) (by kernel_rfl) (by kernel_rfl) (by kernel_rfl) ?_
        refine runC_cell (b := w.heap.size) (j := 3) (v := .slice (some ⟨bn, offn, none⟩) nn cn) load_strs (show opAt (opsOf Tryz.f22 18) 3 = some (some 95, .load 24 (.tmp 94), none) from by kernel_rfl) (by kernel_rfl) (by kernel_rfl) (by kernel_rfl) (List.Mem.head _) rfl ?_
        refine run_mov (v := .int .i64 ((q : Int))) (show opAt (opsOf Tryz.f22 18) 4 = some (some 96, .move (.tmp 7), none) from by kernel_rfl) (by kernel_rfl) (by kernel_rfl) (by kernel_rfl) ?_
        refine run_idx1 (n := nn) (c := cn) (b := bn) (off := offn) (k := q) (show opAt (opsOf Tryz.f22 18) 5 = some (some 97, .indexAddr 24 (.tmp 95) (.tmp 96), none) from by kernel_rfl) (by kernel_rfl) (by kernel_rfl) (by kernel_rfl) (by kernel_rfl) hqn Tryz.underlying24 (by kernel_rfl) infoStr ?_
        refine runC_old (b := bn) (j := offn + q) (v := .string s) load_text (show opAt (opsOf Tryz.f22 18) 6 = some (some 98, .load 9 (.tmp 97), none) from by kernel_rfl) (by kernel_rfl) (by kernel_rfl) (by kernel_rfl) hbnw cn0 ?_
        refine tail_txs3 s (show opAt (opsOf Tryz.f22 18) 7 = some (some 99, .buildSlice 24 1 #[(0, (.tmp 98))], none) from by kernel_rfl) (by kernel_rfl) (by kernel_rfl) (show opAt (opsOf Tryz.f22 18) 8 = some (some 100, .call { callee := .builtin .append, args := [(.tmp 93), (.tmp 99)].toArray, argTypes := [24, 24].toArray }, none) from by kernel_rfl) (by kernel_rfl) (fun _ => by kernel_rfl) (show opAt (opsOf Tryz.f22 18) 9 = some (some 101, .fieldAddr 31 (.tmp 5) 3, none) from by kernel_rfl) (by kernel_rfl) (by kernel_rfl) (fun _ _ => by kernel_rfl) (show opAt (opsOf Tryz.f22 18) 10 = some (none, .store 24 (.tmp 101) (.tmp 100), none) from by kernel_rfl) (by kernel_rfl) (by kernel_rfl) H.out U.out.n LN.out (Nat.succ_le_of_lt (Array.getElem?_eq_some_iff.1 (heldC_at H.out (List.Mem.tail _ (List.Mem.head _)))).1) W0.out (List.Mem.tail _ (List.Mem.head _)) rfl (Nat.lt_succ_self _) B0'.out (fun q hq => far_two FAR.out (Nat.lt_succ_of_lt hbw) (Nat.lt_succ_self _) hq) ?_
        rintro v' w3 ⟨sa3, sn3, sc3, rfl⟩ hK hO hB hZ hR hG
        simp only [putAll, Act.put, List.setIfInBounds_toArray, List.set_cons_zero, List.set_cons_succ]
        have KA1 := heldC_at H.out (List.Mem.head _)
        have hwa := (Array.getElem?_eq_some_iff.1 KA1).1
        have U := Lib.hid (U.out.setN hO hR (fun g hlo hg hne => hG g hg (by omega) hne) hZ)
        have KA := Lib.hid (show w3.heap[w.heap.size]? = some (.cells #[.int .i64 4, .slice ai items.length ci, .slice (some ⟨bp, offp, none⟩) n cp, .slice (some ⟨bn, offn, none⟩) nn cn, .slice ac cls.length cc, .slice al levels.length cl, .int .i64 code, .int .i64 env] 31 (0, 0)) from (hG _ hwa (by omega) (fun e => by have := FAR.out _ e; omega)).trans KA1)
        have KR := Lib.hid (show w3.heap[w.heap.size + 1]? = some (.cells #[.int .i64 0, .slice none 0 0, .slice none 0 0, .slice none 0 0, .slice none 0 0, .slice none 0 0, .int .i64 0, .int .i64 0] 31 (0, 0)) from (hG _ hKR (by omega) (fun e => by have := FAR.out _ e; omega)).trans KRW.out)
        have KB := Lib.hid (show w3.heap[b]? = some (.cells #[.int .i64 4, .slice none 0 0, .slice sa sn sc2, .slice sa3 sn3 sc3, .slice none 0 0, .slice none 0 0, .int .i64 0, .int .i64 0] 31 (0, 0)) from hK)
        have BW := Lib.hid hB
        clear hK hO hB hR hG hZ H FAR LN KA1 hwa
        go_wp2
        go_roundw
        case rel => first | exact ⟨k + 1, _, _, X2, by omega, by go_num, BW.out, KA.out, KR.out, KB.out, by rw [NXI.out, NXN.out]; exact U.out⟩ | ((repeat apply Exists.intro); exact ⟨⟨k + 1, _, _, X2, by omega, by go_num, BW.out, KA.out, KR.out, KB.out, by rw [NXI.out, NXN.out]; exact U.out⟩, rfl⟩)
        case measure => simp [intOf]; omega
    · obtain rfl : k = m := by omega
      obtain ⟨xs, hxs⟩ := U.out.p.row
      obtain ⟨sp, qp, rfl⟩ := row_form hxs
      obtain ⟨sn, qn, Fn, rfl, hot, _, hrt, _⟩ := txs_of_row U.out.n
      have CLN := Lib.hid (fun (W : World) (hb : Below wr.heap.size wr W) => specCleanN 4 0 0 none sp sn none none 0 0 (pkL noV parts (idx.take k)).length qp qn 0 0 0 0 (pkL ⟨#[]⟩ names (idx.take k)) (b + 1) wr.heap.size W ((hot.at_ hrt).below hb (Nat.le_refl _)) hb.size (Nat.le_trans (LM.out k) hn))
      clear hot hrt hxs
      obtain ⟨k0, k1, k2, k3, k4, k5, k6, k7⟩ := vec8 KB.out
      have hKR := (Array.getElem?_eq_some_iff.1 KR.out).1
      go_wp2_with fail
      refine (CLN.out _ (Below.refl _ _)).mono ?_
      rintro e w5 ⟨b', hor⟩
      have BW := Lib.hid (below_then BW.out b')
      have KR := Lib.hid (blk_below b' KR.out)
      have O := Lib.hid ((U.out.below b').own 4)
      have hL1 : w.heap.size + 1 < b + 1 := by omega
      clear b' k0 k1 k2 k3 k4 k5 k6 k7
      obtain ⟨z0, z1, z2, z3, z4, z5, z6, z7⟩ := vec8 KR.out
      obtain ⟨f0, f1, f2, f3, f4, f5, f6, f7⟩ := free8 KR.out
      rcases hor with ⟨hex, rfl⟩ | ⟨hem, g, hg, rfl⟩
      · have EN := Lib.hid (clnN_yes (l := pkL ⟨#[]⟩ names (idx.take k)) (by obtain ⟨i, h1, h2⟩ := hex; exact ⟨i, h1, fun h => h2 (empty_of_size h)⟩))
        rw [EN.out] at EV
        rw [← EV.out] at O
        clear EV EN hex
        go_wp2
        exact vec_end rfl rfl rfl KR.out ⟨_, rfl, (O.out.put8 hL1 _ _ _ _ _ _ _ _).wide (by omega) (by rw [put8_size]; exact Nat.le_refl _), put8_below BW.out (Nat.le_succ _)⟩
      · have EN := Lib.hid (clnN_no (l := pkL ⟨#[]⟩ names (idx.take k)) (fun ⟨i, h1, h2⟩ => h2 (show (txtS _ i).size = 0 by rw [hem i h1]; rfl)))
        rw [EN.out] at EV
        have O := Lib.hid (O.out.noNames (some ⟨g, 0, none⟩) 0)
        rw [← EV.out] at O
        clear EV EN hem hg
        go_wp2
        exact vec_end rfl rfl rfl KR.out ⟨_, rfl, (O.out.put8 hL1 _ _ _ _ _ _ _ _).wide (by omega) (by rw [put8_size]; exact Nat.le_refl _), put8_below BW.out (Nat.le_succ _)⟩
end Go.Proofs.YtpekdmocgjjhnaaGreat

/- ReverseOf: data, both sides. -/
namespace Go.Proofs.YtpekdmocgjjhnaaGreat
open Go.RowKit
set_option maxRecDepth 100000
set_option linter.unusedVariables false

/-- The indexes backwards. -/
def rvI (n : Nat) : List Nat := (List.range n).map (fun p => n - 1 - p)
noncomputable def revS (v : Vec) : ByteArray := match bB (ValidV v), bB (kindV v = 5) with | false, _ => badB | true, true => nelB | true, false => ⟨#[]⟩
noncomputable def revV (v : Vec) : Vec := match bB (ValidV v ∧ ¬ kindV v = 5), v with
  | true, .mk kk items parts names cls levels _ _ => selV kk items parts names cls levels (rvI (items.length + parts.length))
  | false, _ => noV
/-- The reference's l4Pick, of any valid vector but a function. -/
theorem specPickV (d : Nat) (kk : Int) (items : List It) (parts : List Vec) (names cls levels : List ByteArray) (code env : Int) (ai ap an ac al xi : Option Addr) (ci cp cn cc cl xc lo hi B : Nat) (idx : List Nat) (w : World) (hI : ItemsAt lo hi w ai items) (hP : VecsAt lo hi w d ap parts) (hN : TextsAt lo hi w an names) (hC : TextsAt lo hi w ac cls) (hL : TextsAt lo hi w al levels) (hhi : hi ≤ w.heap.size)
    (hsm : Small (d + 1) (.mk kk items parts names cls levels code env)) (hv : ValidV (.mk kk items parts names cls levels code env)) (h5 : ¬ kk = 5) (hs : IntsAt B w xi idx.length (fun i => ixF idx i + 1)) (hB : B ≤ w.heap.size) (hn : idx.length ≤ 1048576) (hin : ∀ i, i < idx.length → idx.getD i 0 < items.length + parts.length) :
    Calls Tryz.prog 22 #[.agg #[.int .i64 kk, .slice ai items.length ci, .slice ap parts.length cp, .slice an names.length cn, .slice ac cls.length cc, .slice al levels.length cl, .int .i64 code, .int .i64 env], .slice xi idx.length xc] w (ResV (d + 1) (selV kk items parts names cls levels idx) w) := by
  have hf : FlatOk kk items parts.length names cls levels code env := hv.1.flat
  have hnm : names.length ≠ 0 → names.length = items.length + parts.length := fun h => by
    rcases hf.h_names with e | e
    · exact absurd e h
    · unfold lenV at e; rw [if_neg h5] at e; exact e
  obtain ⟨li, lp, ln, lc, ll, _, _, _, _, hsp⟩ := hsm
  by_cases h4 : kk = 4
  · subst h4
    have l0 := hf.h_list rfl
    exact specPickP d items parts names cls levels code env ai ap an ac al xi ci cp cn cc cl xc lo hi B idx w hP hN hhi l0 lp ln (hf.h_noLevels (by decide)) hsp (fun i hi => ⟨(part_is hv.1 d i hi).1, (part_is hv.1 d i hi).2.1⟩) hs hB hn (fun i hi => by have := hin i hi; omega) (fun h => by have := hnm h; omega)
  · have lp0 := hf.h_noParts h4
    exact specPickA d kk items parts names cls levels code env ai ap an ac al xi ci cp cn cc cl xc lo hi B idx w hI hN hC hL hhi li lp0 ln lc ll hs hB hn h4 h5 (fun i hi => by have := hin i hi; omega) (fun h => by have := hnm h; omega)
def dnL (n k : Nat) : List Int := (List.range k).map (fun (i : Nat) => (n : Int) - i)
end Go.Proofs.YtpekdmocgjjhnaaGreat

/- ElementOf: the reference. -/
namespace Go.Proofs.YtpekdmocgjjhnaaGreat
open Go.RowKit
set_option maxRecDepth 100000
set_option linter.unusedVariables false

theorem specLenW (d : Nat) (v : Vec) (val : Value) (lo hi : Nat) (w : World) (hv : VecAt lo hi w d v val) (hsm : Small d v) :
    Calls Tryz.prog 20 #[val] w fun e w' => e = .returned (.int .i64 ((lengthV v : Nat) : Int)) ∧ Below w.heap.size w w' := by
  obtain ⟨k, items, parts, names, cls, levels, code, env⟩ := v
  obtain ⟨d', ai, ci, ap, cp, an, cn, ac, cc, al, cl, ed, rfl, _⟩ := vecAt_open hv
  subst ed
  exact specLen k ai ap an ac al items.length ci parts.length cp names.length cn cls.length cc levels.length cl code env w hsm.1 hsm.2.1
set_option maxHeartbeats 8000000 in
theorem specElementOf (d d2 : Nat) (v s : Vec) (val vals : Value) (lo hi : Nat) (w : World) (hv : VecAt lo hi w d v val) (hs : VecAt lo hi w d2 s vals) (hhi : hi ≤ w.heap.size) (hsm : Small d v) (hsm2 : Small d2 s) :
    Calls Tryz.prog 12 #[val, vals] w (ResVS d (elV v s) (elS v s) w) := by
  have C1 := Lib.hid (fun (w1 : World) (hb : Below w.heap.size w w1) => specIsVector d v val lo hi w1 (hv.below hb hhi) (Nat.le_trans hhi hb.size) hsm)
  have LN := Lib.hid (fun (W : World) (hb : Below w.heap.size w W) => specLenW d v val lo hi W (hv.below hb hhi) hsm)
  have LS := Lib.hid (fun (W : World) (hb : Below w.heap.size w W) => specLenW d2 s vals lo hi W (hs.below hb hhi) hsm2)
  obtain ⟨VV, hVV⟩ : ∃ V, v = V := ⟨_, rfl⟩
  rw [hVV] at C1 LN ⊢
  obtain ⟨kk, items, parts, names, cls, levels, code, env⟩ := v
  obtain ⟨d', ai, ci, ap, cp, an, cn, ac, cc, al, cl, ed, rfl, hI, hN, hC, hL, hP⟩ := vecAt_open hv
  subst ed
  have lp : parts.length ≤ 1048576 := hsm.2.1
  have li : items.length ≤ 1048576 := hsm.1
  have ln : names.length ≤ 1048576 := hsm.2.2.1
  have hsp : ∀ p ∈ parts, Small d' p := hsm.2.2.2.2.2.2.2.2.2
  have XK : kindV VV = kk := by rw [← hVV]; rfl
  have XN : namV VV = names := by rw [← hVV]; rfl
  have XL : ¬ kk = 5 → lengthV VV = items.length + parts.length := fun h5 => by rw [← hVV]; show lenV kk items.length parts.length = _; unfold lenV; rw [if_neg h5]
  have CR := Lib.hid (fun (W : World) (hb : Below w.heap.size w W) => specResolve d2 s vals (lengthV VV : Int) names an cn lo hi lo hi W (hs.below hb hhi) (Nat.le_trans hhi hb.size) hsm2 (hN.below hb hhi) (Nat.le_trans hhi hb.size) ln)
  have CP := Lib.hid (fun (h : ValidV VV) (h5 : ¬ kk = 5) (j : Nat) (hj : j < lengthV VV) (xi : Option Addr) (xc : Nat) (W : World) (hb : Below w.heap.size w W) (hs : IntsAt W.heap.size W xi 1 (fun i => ixF [j] i + 1)) => (by
    have hj2 : j < items.length + parts.length := by rw [XL h5] at hj; exact hj
    rw [← hVV] at h
    exact specPickV d' kk items parts names cls levels code env ai ap an ac al xi ci cp cn cc cl xc lo hi W.heap.size [j] W (hI.below hb hhi) (hP.below hb hhi) (hN.below hb hhi) (hC.below hb hhi) (hL.below hb hhi) (Nat.le_trans hhi hb.size) hsm h h5 hs (Nat.le_refl _) (by show 1 ≤ 1048576; decide)
      (fun i hi => by have hi : i < 1 := hi; obtain rfl : i = 0 := (by omega); exact hj2) : Calls Tryz.prog 22 #[.agg #[.int .i64 kk, .slice ai items.length ci, .slice ap parts.length cp, .slice an names.length cn, .slice ac cls.length cc, .slice al levels.length cl, .int .i64 code, .int .i64 env], .slice xi 1 xc] W (ResV (d' + 1) (selV kk items parts names cls levels [j]) W)))
  have HJ4 := Lib.hid (fun (h : ValidV VV) (h4 : kk = 4) (j : Nat) (hj : j < lengthV VV) => (by
    rw [XL (by omega)] at hj; rw [← hVV] at h
    have hf : FlatOk kk items parts.length names cls levels code env := h.1.flat
    have := hf.h_list h4
    omega : j < parts.length))
  have AP := Lib.hid (fun (j : Nat) (hj : j < parts.length) => hP.at_ hj)
  have CE := Lib.hid (fun (h : ValidV VV) (j : Nat) (hj : j < parts.length) (x : Value) (hv : VecAt lo hi w d' (parts.getD j noV) x) (W : World) (hb : Below w.heap.size w W) => (by
    rw [← hVV] at h
    have hp := part_is h.1 d' j hj
    exact (scvAll d').out _ x lo hi W (hv.below hb hhi) (Nat.le_trans hhi hb.size) (hsp _ (by rw [List.getD_eq_getElem?_getD, List.getElem?_eq_getElem hj]; exact List.getElem_mem hj)) hp.1 hp.2.1 : Calls Tryz.prog 39 #[x] W (ResV d' (parts.getD j noV) W)))
  have EL := Lib.hid (fun (h4 : kk = 4) (j : Nat) => (by subst h4; rw [← hVV]; exact elm_list : elmV VV j = parts.getD j noV))
  have EA := Lib.hid (fun (h4 : ¬ kk = 4) (j : Nat) => (by rw [← hVV]; exact elm_atom h4 : elmV VV j = .mk kk (pkL noI items [j]) (pkL noV parts [j]) [] (kpC levels cls) levels 0 0))
  have LL : ¬ kk = 5 → lengthV VV ≤ 2097153 := fun h => by rw [XL h]; omega
  have RB := Lib.hid (fun h => rv_bad (v := VV) (s := s) h)
  have RF := Lib.hid (fun h h5 => rv_fun (v := VV) (s := s) h h5)
  have RV := Lib.hid (fun h h5 => (by have := rv_yes (v := VV) (s := s) h h5; rw [XN] at this; exact this : rvZ VV s = rsZ (lengthV VV : Int) names s ∧ rvS VV s = rsS (lengthV VV : Int) names s))
  have XB := Lib.hid (fun h => el_bad (v := VV) (s := s) h)
  have XM := Lib.hid (fun h h1 => el_many (v := VV) (s := s) h h1)
  have XO := Lib.hid (fun h h1 => el_one (v := VV) (s := s) h h1)
  obtain ⟨sk, sa1, sn1, sm1, sa2, sn2, sm2, sa3, sn3, sm3, sa4, sn4, sm4, sa5, sn5, sm5, sc, se, rfl⟩ := hs.agg
  obtain ⟨EV, hEV⟩ : ∃ x, elV VV s = x := ⟨_, rfl⟩
  obtain ⟨ES, hES⟩ : ∃ x, elS VV s = x := ⟨_, rfl⟩
  obtain ⟨M, hM⟩ : ∃ x, lengthV s = x := ⟨_, rfl⟩
  obtain ⟨L, hL'⟩ : ∃ x, lengthV VV = x := ⟨_, rfl⟩
  have OP := Lib.hid (show OneP VV s ↔ (M = 1 ∧ (rvZ VV s).length = 1 ∧ 1 ≤ (rvZ VV s).getD 0 0 ∧ (rvZ VV s).getD 0 0 ≤ (L : Int)) by unfold OneP; rw [hM, hL'])
  rw [hEV, hES] at XB XM XO ⊢
  rw [hM] at LS
  rw [hL'] at LN CR CP HJ4 RV LL
  obtain ⟨Z, hZ⟩ : ∃ x, rsZ (L : Int) names s = x := ⟨_, rfl⟩
  obtain ⟨R, hR⟩ : ∃ x, rsS (L : Int) names s = x := ⟨_, rfl⟩
  rw [hZ, hR] at CR RV
  have hhi2 := Lib.hid hhi
  clear hv hs hhi hsm hsm2 hEV hES hM hL' hZ hR hVV hI hN hC hL hP hsp lp li ln XN XL
  go_enter Tryz.func12, Tryz.ntmps12
  go_wp2_with fail
  obtain ⟨w1, hw1⟩ : ∃ W, ((w.alloc (.cells #[.int .i64 kk, .slice ai items.length ci, .slice ap parts.length cp, .slice an names.length cn, .slice ac cls.length cc, .slice al levels.length cl, .int .i64 code, .int .i64 env] 31)).alloc (.cells #[.int .i64 sk, .slice sa1 sn1 sm1, .slice sa2 sn2 sm2, .slice sa3 sn3 sm3, .slice sa4 sn4 sm4, .slice sa5 sn5 sm5, .int .i64 sc, .int .i64 se] 31)).alloc (.cells #[.int .i64 0, .slice none 0 0, .slice none 0 0, .slice none 0 0, .slice none 0 0, .slice none 0 0, .int .i64 0, .int .i64 0] 31) = W := ⟨_, rfl⟩
  have hsz : (w.alloc (.cells #[.int .i64 kk, .slice ai items.length ci, .slice ap parts.length cp, .slice an names.length cn, .slice ac cls.length cc, .slice al levels.length cl, .int .i64 code, .int .i64 env] 31)).heap.size = w.heap.size + 1 := by simp
  have hsz2 : ((w.alloc (.cells #[.int .i64 kk, .slice ai items.length ci, .slice ap parts.length cp, .slice an names.length cn, .slice ac cls.length cc, .slice al levels.length cl, .int .i64 code, .int .i64 env] 31)).alloc (.cells #[.int .i64 sk, .slice sa1 sn1 sm1, .slice sa2 sn2 sm2, .slice sa3 sn3 sm3, .slice sa4 sn4 sm4, .slice sa5 sn5 sm5, .int .i64 sc, .int .i64 se] 31)).heap.size = w.heap.size + 1 + 1 := by simp
  have B1 := Lib.hid (show Below w.heap.size w w1 from hw1 ▸ ((below1 w _).alloc (by simp) _).alloc (by simp; omega) _)
  have KA := Lib.hid (show w1.heap[w.heap.size]? = some (.cells #[.int .i64 kk, .slice ai items.length ci, .slice ap parts.length cp, .slice an names.length cn, .slice ac cls.length cc, .slice al levels.length cl, .int .i64 code, .int .i64 env] 31 (0, 0)) from hw1 ▸ blk_old (blk_old (blk_new w _ rfl)))
  have KB := Lib.hid (show w1.heap[w.heap.size + 1]? = some (.cells #[.int .i64 sk, .slice sa1 sn1 sm1, .slice sa2 sn2 sm2, .slice sa3 sn3 sm3, .slice sa4 sn4 sm4, .slice sa5 sn5 sm5, .int .i64 sc, .int .i64 se] 31 (0, 0)) from hw1 ▸ blk_old (hsz ▸ blk_new (w.alloc (.cells #[.int .i64 kk, .slice ai items.length ci, .slice ap parts.length cp, .slice an names.length cn, .slice ac cls.length cc, .slice al levels.length cl, .int .i64 code, .int .i64 env] 31)) (.cells #[.int .i64 sk, .slice sa1 sn1 sm1, .slice sa2 sn2 sm2, .slice sa3 sn3 sm3, .slice sa4 sn4 sm4, .slice sa5 sn5 sm5, .int .i64 sc, .int .i64 se] 31) rfl))
  have KR := Lib.hid (show w1.heap[w.heap.size + 1 + 1]? = some (.cells #[.int .i64 0, .slice none 0 0, .slice none 0 0, .slice none 0 0, .slice none 0 0, .slice none 0 0, .int .i64 0, .int .i64 0] 31 (0, 0)) from hw1 ▸ hsz2 ▸ blk_new ((w.alloc (.cells #[.int .i64 kk, .slice ai items.length ci, .slice ap parts.length cp, .slice an names.length cn, .slice ac cls.length cc, .slice al levels.length cl, .int .i64 code, .int .i64 env] 31)).alloc (.cells #[.int .i64 sk, .slice sa1 sn1 sm1, .slice sa2 sn2 sm2, .slice sa3 sn3 sm3, .slice sa4 sn4 sm4, .slice sa5 sn5 sm5, .int .i64 sc, .int .i64 se] 31)) (.cells #[.int .i64 0, .slice none 0 0, .slice none 0 0, .slice none 0 0, .slice none 0 0, .slice none 0 0, .int .i64 0, .int .i64 0] 31) rfl)
  have Z1 := Lib.hid (show w1.heap.size = w.heap.size + 1 + 1 + 1 from hw1 ▸ (by simp))
  rw [hw1]
  clear hw1 hsz hsz2
  with_reducible refine (C1.out _ B1.out).mono ?_
  rintro e w2 ⟨rfl, b⟩
  have KA := Lib.hid (blk_below b KA.out)
  have KB := Lib.hid (blk_below b KB.out)
  have KR := Lib.hid (blk_below b KR.out)
  have Z2 := Lib.hid (show w.heap.size + 1 + 1 + 1 ≤ w2.heap.size from Z1.out ▸ b.size)
  have B2 := Lib.hid (below_then B1.out b)
  clear b C1 Z1
  by_cases q : ValidV VV
  · rw [bB_yes q]
    by_cases h5 : kk = 5
    · have XX := Lib.hid (by have h := RF.out q (XK.trans h5); have h2 := XB.out (fun e => by rw [h.2] at e; exact absurd e (by decide)); rw [h.2] at h2; exact h2 : EV = noV ∧ ES = nelB)
      subst h5
      clear q XK XB XM XO RB RF RV OP CE EL EA AP HJ4 CP CR LN LS LL
      obtain ⟨k0, k1, k2, k3, k4, k5, k6, k7⟩ := vec8 KA.out
      obtain ⟨z0, z1, z2, z3, z4, z5, z6, z7⟩ := vec8 KR.out
      obtain ⟨f0, f1, f2, f3, f4, f5, f6, f7⟩ := free8 KR.out
      go_wp2
      rw [XX.out.1, XX.out.2]
      exact vec_endS rfl rfl rfl rfl KR.out (zeroSD _ _ w _ (put8_below B2.out (by omega)))
    · obtain ⟨hz0, hr0⟩ := RV.out q (fun e => h5 (XK ▸ e))
      rw [hz0] at OP XO
      rw [hr0] at XB XM XO
      have CP2 := Lib.hid (fun j hj => CP.out q h5 j hj)
      have HJ42 := Lib.hid (fun h4 j hj => HJ4.out q h4 j hj)
      have CE2 := Lib.hid (fun j hj => CE.out q j hj)
      have LL := LL h5
      have h5b : (kk == 5) = false := beq_eq_false_iff_ne.2 h5
      have NR := Lib.hid (⟨KR.out⟩ : NewB (w.heap.size + 1 + 1) 31 #[.int .i64 0, .slice none 0 0, .slice none 0 0, .slice none 0 0, .slice none 0 0, .slice none 0 0, .int .i64 0, .int .i64 0] w2)
      clear q XK RB RF RV h5 CP HJ4 CE hz0 hr0
      obtain ⟨k0, k1, k2, k3, k4, k5, k6, k7⟩ := vec8 KA.out
      go_upto_region 5 with (fail)
      clear k0 k1 k2 k3 k4 k5 k6 k7
      have H := Lib.hid (show HeldC w2 w2 ([(w.heap.size, 31, #[.int .i64 kk, .slice ai items.length ci, .slice ap parts.length cp, .slice an names.length cn, .slice ac cls.length cc, .slice al levels.length cl, .int .i64 code, .int .i64 env]), (w.heap.size + 1, 31, #[.int .i64 sk, .slice sa1 sn1 sm1, .slice sa2 sn2 sm2, .slice sa3 sn3 sm3, .slice sa4 sn4 sm4, .slice sa5 sn5 sm5, .int .i64 sc, .int .i64 se])]) from heldC_two (Below.refl _ _) KA.out KB.out)
      refine run_regionT (ops := (opsOf Tryz.f12 5)) (S := fun w' => HeldC w2 w' ([(w.heap.size, 31, #[.int .i64 kk, .slice ai items.length ci, .slice ap parts.length cp, .slice an names.length cn, .slice ac cls.length cc, .slice al levels.length cl, .int .i64 code, .int .i64 env]), ((w.heap.size + 1), 31, #[.int .i64 sk, .slice sa1 sn1 sm1, .slice sa2 sn2 sm2, .slice sa3 sn3 sm3, .slice sa4 sn4 sm4, .slice sa5 sn5 sm5, .int .i64 sc, .int .i64 se])])) (.leaf [(0, true), (2, true), (3, true), (4, true), (1, false), (5, false), (6, true), (7, true), (8, true), (9, true), (10, true)]) (by kernel_rfl) (by kernel_rfl) (by kernel_rfl) (by kernel_rfl) (by kernel_rfl) (fun _ _ _ _ _ h => h) (heldC_drew H.out) ?_
      have H := Lib.hid (heldC_drew H.out)
      have NR := Lib.hid (NR.out.keep (below_drew' (Below.refl _ _)))
      refine runC_vec (b := w.heap.size) (show opAt (opsOf Tryz.f12 5) 0 = some (some 20, .load 31 (.tmp 2), none) from by kernel_rfl) (by kernel_rfl) (by kernel_rfl) (by kernel_rfl) (List.Mem.head _) ?_
      refine runC_partV (b := w.heap.size) (by kernel_rfl) (show opAt (opsOf Tryz.f12 5) 2 = some (some 22, .fieldAddr 31 (.tmp 2) 3, none) from by kernel_rfl) (by kernel_rfl) (by kernel_rfl) (by kernel_rfl) ?_
      refine runC_cell (b := w.heap.size) (j := 3) (v := .slice an names.length cn) load_strs (show opAt (opsOf Tryz.f12 5) 3 = some (some 23, .load 24 (.tmp 22), none) from by kernel_rfl) (by kernel_rfl) (by kernel_rfl) (by kernel_rfl) (List.Mem.head _) rfl ?_
      refine runC_vec (b := (w.heap.size + 1)) (show opAt (opsOf Tryz.f12 5) 4 = some (some 24, .load 31 (.tmp 3), none) from by kernel_rfl) (by kernel_rfl) (by kernel_rfl) (by kernel_rfl) (List.Mem.tail _ (List.Mem.head _)) ?_
      refine run_call (args := [.agg #[.int .i64 kk, .slice ai items.length ci, .slice ap parts.length cp, .slice an names.length cn, .slice ac cls.length cc, .slice al levels.length cl, .int .i64 code, .int .i64 env]]) (show opAt (opsOf Tryz.f12 5) 1 = some (some 21, .call { callee := .value (.func 20), args := [(.tmp 20)].toArray, argTypes := [31].toArray }, none) from by kernel_rfl) (by kernel_rfl) (by kernel_rfl) (by kernel_rfl) (by kernel_rfl) ?_
      refine (LN.out _ (below_then B2.out H.out.1)).mono ?_
      rintro en rw1 ⟨rfl, hb⟩
      refine ⟨_, rfl, heldC_call H.out hb, ?_⟩
      have H := Lib.hid (heldC_call H.out hb)
      have NR := Lib.hid (NR.out.keep hb)
      clear hb
      refine run_call (args := [.int .i64 ((L : Int)), .slice an names.length cn, .agg #[.int .i64 sk, .slice sa1 sn1 sm1, .slice sa2 sn2 sm2, .slice sa3 sn3 sm3, .slice sa4 sn4 sm4, .slice sa5 sn5 sm5, .int .i64 sc, .int .i64 se]]) (show opAt (opsOf Tryz.f12 5) 5 = some (some 25, .call { callee := .value (.func 19), args := [(.tmp 21), (.tmp 23), (.tmp 24)].toArray, argTypes := [3, 24, 31].toArray }, none) from by kernel_rfl) (by kernel_rfl) (by kernel_rfl) (by kernel_rfl) (by kernel_rfl) ?_
      refine (CR.out _ (below_then B2.out H.out.1)).mono ?_
      rintro en rw2 ⟨v5, rfl, hz⟩
      refine ⟨_, rfl, heldC_call H.out hz.below, ?_⟩
      have BH := Lib.hid H.out.1
      have HZ := Lib.hid hz
      have H := Lib.hid (heldC_call H.out hz.below)
      have NR := Lib.hid (NR.out.keep hz.below)
      clear hz
      refine run_mov (v := .tuple #[v5, .string R]) (show opAt (opsOf Tryz.f12 5) 6 = some (some 19, .move (.tmp 25), none) from by kernel_rfl) (by kernel_rfl) (by kernel_rfl) (by kernel_rfl) ?_
      refine run_extract (vs := #[v5, .string R]) (v := v5) (show opAt (opsOf Tryz.f12 5) 7 = some (some 26, .extract (.tmp 19) 0, none) from by kernel_rfl) (by kernel_rfl) (by kernel_rfl) (by kernel_rfl) (by rfl) ?_
      refine run_extract (vs := #[v5, .string R]) (v := .string R) (show opAt (opsOf Tryz.f12 5) 8 = some (some 27, .extract (.tmp 19) 1, none) from by kernel_rfl) (by kernel_rfl) (by kernel_rfl) (by kernel_rfl) (by rfl) ?_
      refine run_asg (v := v5) (show opAt (opsOf Tryz.f12 5) 9 = some (some 6, .assign (.tmp 26), none) from by kernel_rfl) (by kernel_rfl) (by kernel_rfl) (by kernel_rfl) ?_
      refine run_asg (v := .string R) (show opAt (opsOf Tryz.f12 5) 10 = some (some 7, .assign (.tmp 27), none) from by kernel_rfl) (by kernel_rfl) (by kernel_rfl) (by kernel_rfl) ?_
      refine run_done ?_
      simp only [putAll, Act.put, List.setIfInBounds_toArray, List.set_cons_zero, List.set_cons_succ]
      obtain ⟨w3, hw3⟩ : ∃ W, rw2 = W := ⟨_, rfl⟩
      rw [hw3] at HZ H NR ⊢
      clear hw3
      have KA := Lib.hid (heldC_at H.out (List.Mem.head _))
      have KB := Lib.hid (heldC_at H.out (List.Mem.tail _ (List.Mem.head _)))
      have B3 := Lib.hid (below_then B2.out H.out.1)
      have Z3 := Lib.hid (Nat.le_trans Z2.out BH.out.size)
      clear H
      by_cases hR : R = ⟨#[]⟩
      · have XM2 := Lib.hid (fun h1 => XM.out hR h1)
        have XO2 := Lib.hid (fun h1 => XO.out hR h1)
        obtain ⟨sa, c, hv5, hi'⟩ := HZ.out.ints
        subst hv5
        clear hi' XB XM XO CR
        subst hR
        have XM := XM2
        have XO := XO2
        clear XM2 XO2
        by_cases hm : M = 1
        · by_cases hn : Z.length = 1
          · obtain ⟨g, c', e, hg0, hg1⟩ := HZ.out.parts (by omega)
            cases e
            have GL := Lib.hid hg1
            have GG := Lib.hid (Nat.le_trans Z3.out hg0)
            obtain ⟨gc, _⟩ := HZ.out.cell (k := 0) (by omega)
            have GC := Lib.hid (show w3.cell? ⟨g, 0 + 0, none⟩ = some (.int .i64 (Z.getD 0 0)) from gc)
            obtain ⟨z, hz⟩ : ∃ x, Z.getD 0 0 = x := ⟨_, rfl⟩
            rw [hz] at OP
            rw [hz] at GC
            rw [hn] at HZ ⊢
            rw [hz] at XO
            have IP := Lib.hid (fun (W : World) => l1In_any z 1 (L : Int) W)
            by_cases hp : 1 ≤ z ∧ z ≤ (L : Int)
            · obtain ⟨j, rfl⟩ : ∃ j : Nat, z = (j : Int) + 1 := ⟨(z - 1).toNat, by omega⟩
              have hj : j < L := by omega
              have XX := Lib.hid (by have h := XO.out (OP.out.2 ⟨hm, hn, hp⟩); rw [show ((j : Int) + 1 - 1).toNat = j by omega] at h; exact h : EV = elmV VV j ∧ ES = ⟨#[]⟩)
              have IP := Lib.hid (by rw [decide_eq_true hp] at IP; exact IP.out : ∀ (W : World), Calls Tryz.prog 38 #[.int .i64 ((j : Int) + 1), .int .i64 1, .int .i64 (L : Int)] W fun e w' => e = .returned (.bool true) ∧ W = w')
              have CP := Lib.hid (CP2.out j hj)
              have HJ4 := Lib.hid (fun h4 => HJ42.out h4 j hj)
              have EL := Lib.hid (fun h4 => EL.out h4 j)
              have EA := Lib.hid (fun h4 => EA.out h4 j)
              have BJ := Lib.hid (show j < 2097153 by omega)
              have ZN := Lib.hid hn
              have ZZ := Lib.hid hz
              clear hg0 hg1 gc XM OP hp hj LL hn hz CP2 HJ42 KR
              go_upto_region 8 with (fail)
              have H := Lib.hid (show HeldC w3 w3 ([(w.heap.size, 31, #[.int .i64 kk, .slice ai items.length ci, .slice ap parts.length cp, .slice an names.length cn, .slice ac cls.length cc, .slice al levels.length cl, .int .i64 code, .int .i64 env]), (w.heap.size + 1, 31, #[.int .i64 sk, .slice sa1 sn1 sm1, .slice sa2 sn2 sm2, .slice sa3 sn3 sm3, .slice sa4 sn4 sm4, .slice sa5 sn5 sm5, .int .i64 sc, .int .i64 se])]) from heldC_two (Below.refl _ _) KA.out KB.out)
              refine run_regionT (ops := (opsOf Tryz.f12 8)) (S := fun w' => HeldC w3 w' ([(w.heap.size, 31, #[.int .i64 kk, .slice ai items.length ci, .slice ap parts.length cp, .slice an names.length cn, .slice ac cls.length cc, .slice al levels.length cl, .int .i64 code, .int .i64 env]), ((w.heap.size + 1), 31, #[.int .i64 sk, .slice sa1 sn1 sm1, .slice sa2 sn2 sm2, .slice sa3 sn3 sm3, .slice sa4 sn4 sm4, .slice sa5 sn5 sm5, .int .i64 sc, .int .i64 se])])) (.leaf [(0, true), (1, false), (2, true), (3, true), (4, true), (5, true), (6, true), (7, true), (8, true), (9, true), (10, true), (11, true), (12, true), (13, false), (14, false), (15, true), (16, true)]) (by kernel_rfl) (by kernel_rfl) (by kernel_rfl) (by kernel_rfl) (by kernel_rfl) (fun _ _ _ _ _ h => h) (heldC_drew H.out) ?_
              have H := Lib.hid (heldC_drew H.out)
              have NR := Lib.hid (NR.out.keep (below_drew' (Below.refl _ _)))
              have HZ := Lib.hid (HZ.out.keep (below_drew' (Below.refl _ _)))
              refine runC_vec (b := (w.heap.size + 1)) (show opAt (opsOf Tryz.f12 8) 0 = some (some 32, .load 31 (.tmp 3), none) from by kernel_rfl) (by kernel_rfl) (by kernel_rfl) (by kernel_rfl) (List.Mem.tail _ (List.Mem.head _)) ?_
              refine run_call (args := [.agg #[.int .i64 sk, .slice sa1 sn1 sm1, .slice sa2 sn2 sm2, .slice sa3 sn3 sm3, .slice sa4 sn4 sm4, .slice sa5 sn5 sm5, .int .i64 sc, .int .i64 se]]) (show opAt (opsOf Tryz.f12 8) 1 = some (some 33, .call { callee := .value (.func 20), args := [(.tmp 32)].toArray, argTypes := [31].toArray }, none) from by kernel_rfl) (by kernel_rfl) (by kernel_rfl) (by kernel_rfl) (by kernel_rfl) ?_
              refine (LS.out _ (below_then B3.out H.out.1)).mono ?_
              rintro en rx1 ⟨rfl, hb⟩
              refine ⟨_, rfl, heldC_call H.out hb, ?_⟩
              have H := Lib.hid (heldC_call H.out hb)
              have NR := Lib.hid (NR.out.keep hb)
              have HZ := Lib.hid (HZ.out.keep hb)
              clear hb
              refine run_cmp (k := .i64) (p := (M : Int)) (q := 1) (b := false) (show opAt (opsOf Tryz.f12 8) 2 = some (some 34, .binOp .neq 3 (.tmp 33) (.const (.int .i64 1)) 3, none) from by kernel_rfl) (by kernel_rfl) (by kernel_rfl) (by kernel_rfl) (by kernel_rfl) (congrArg some (bne_eq_false_iff_eq.2 (by omega))) ?_
              refine run_mov (v := .bool false) (show opAt (opsOf Tryz.f12 8) 3 = some (some 35, .move (.tmp 34), none) from by kernel_rfl) (by kernel_rfl) (by kernel_rfl) (by kernel_rfl) ?_
              refine run_mov (v := .slice (some ⟨g, 0, none⟩) 1 c) (show opAt (opsOf Tryz.f12 8) 4 = some (some 36, .move (.tmp 6), some (3, false)) from by kernel_rfl) (by kernel_rfl) (by kernel_rfl) (by kernel_rfl) ?_
              refine run_len (b := (some ⟨g, 0, none⟩)) (n := 1) (c := c) (show opAt (opsOf Tryz.f12 8) 5 = some (some 37, .call { callee := .builtin .len, args := [(.tmp 36)].toArray, argTypes := [43].toArray }, some (3, false)) from by kernel_rfl) (by kernel_rfl) (by kernel_rfl) (by kernel_rfl) (by kernel_rfl) ?_
              refine run_cmp (k := .i64) (p := 1) (q := 1) (b := false) (show opAt (opsOf Tryz.f12 8) 6 = some (some 38, .binOp .neq 3 (.tmp 37) (.const (.int .i64 1)) 3, some (3, false)) from by kernel_rfl) (by kernel_rfl) (by kernel_rfl) (by kernel_rfl) (by kernel_rfl) (congrArg some (bne_eq_false_iff_eq.2 rfl)) ?_
              refine run_pick (b := false) (v := .bool false) (show opAt (opsOf Tryz.f12 8) 7 = some (some 39, .pick (.tmp 35) (.const (.bool true)) (.tmp 38), none) from by kernel_rfl) (by kernel_rfl) (by kernel_rfl) (by kernel_rfl) (by kernel_rfl) ?_
              refine run_mov (v := .bool false) (show opAt (opsOf Tryz.f12 8) 8 = some (some 40, .move (.tmp 39), none) from by kernel_rfl) (by kernel_rfl) (by kernel_rfl) (by kernel_rfl) ?_
              refine run_mov (v := .slice (some ⟨g, 0, none⟩) 1 c) (show opAt (opsOf Tryz.f12 8) 9 = some (some 41, .move (.tmp 6), some (8, false)) from by kernel_rfl) (by kernel_rfl) (by kernel_rfl) (by kernel_rfl) ?_
              refine run_idx1 (n := 1) (c := c) (b := g) (off := 0) (k := 0) (show opAt (opsOf Tryz.f12 8) 10 = some (some 42, .indexAddr 43 (.tmp 41) (.const (.int .i64 0)), some (8, false)) from by kernel_rfl) (by kernel_rfl) (by kernel_rfl) (by kernel_rfl) (by kernel_rfl) (by omega) Tryz.underlying43 (by kernel_rfl) infoInt ?_
              refine runC_old (b := g) (j := 0 + 0) (v := .int .i64 (((j : Int) + 1))) load_int (show opAt (opsOf Tryz.f12 8) 11 = some (some 43, .load 3 (.tmp 42), some (8, false)) from by kernel_rfl) (by kernel_rfl) (by kernel_rfl) (by kernel_rfl) GL.out GC.out ?_
              refine runC_vec (b := w.heap.size) (show opAt (opsOf Tryz.f12 8) 12 = some (some 44, .load 31 (.tmp 2), some (8, false)) from by kernel_rfl) (by kernel_rfl) (by kernel_rfl) (by kernel_rfl) (List.Mem.head _) ?_
              refine run_call (args := [.agg #[.int .i64 kk, .slice ai items.length ci, .slice ap parts.length cp, .slice an names.length cn, .slice ac cls.length cc, .slice al levels.length cl, .int .i64 code, .int .i64 env]]) (show opAt (opsOf Tryz.f12 8) 13 = some (some 45, .call { callee := .value (.func 20), args := [(.tmp 44)].toArray, argTypes := [31].toArray }, some (8, false)) from by kernel_rfl) (by kernel_rfl) (by kernel_rfl) (by kernel_rfl) (by kernel_rfl) ?_
              refine (LN.out _ (below_then B3.out H.out.1)).mono ?_
              rintro en rx2 ⟨rfl, hb⟩
              refine ⟨_, rfl, heldC_call H.out hb, ?_⟩
              have H := Lib.hid (heldC_call H.out hb)
              have NR := Lib.hid (NR.out.keep hb)
              have HZ := Lib.hid (HZ.out.keep hb)
              clear hb
              refine run_call (args := [.int .i64 (((j : Int) + 1)), .int .i64 1, .int .i64 ((L : Int))]) (show opAt (opsOf Tryz.f12 8) 14 = some (some 46, .call { callee := .value (.func 38), args := [(.tmp 43), (.const (.int .i64 1)), (.tmp 45)].toArray, argTypes := [3, 3, 3].toArray }, some (8, false)) from by kernel_rfl) (by kernel_rfl) (by kernel_rfl) (by kernel_rfl) (by kernel_rfl) ?_
              refine (IP.out _).mono ?_
              rintro en rx3 ⟨rfl, rfl⟩
              refine ⟨_, rfl, H.out, ?_⟩
              refine run_not (b := true) (show opAt (opsOf Tryz.f12 8) 15 = some (some 47, .unOp .not 4 (.tmp 46), some (8, false)) from by kernel_rfl) (by kernel_rfl) (by kernel_rfl) (by kernel_rfl) ?_
              refine run_pick (b := false) (v := .bool false) (show opAt (opsOf Tryz.f12 8) 16 = some (some 48, .pick (.tmp 40) (.const (.bool true)) (.tmp 47), none) from by kernel_rfl) (by kernel_rfl) (by kernel_rfl) (by kernel_rfl) (by kernel_rfl) ?_
              refine run_done ?_
              simp only [putAll, Act.put, List.setIfInBounds_toArray, List.set_cons_zero, List.set_cons_succ]
              have B4 := Lib.hid (below_then B3.out H.out.1)
              have KA := Lib.hid (heldC_at H.out (List.Mem.head _))
              obtain ⟨CQ, kp, cc'⟩ := HZ.out.blk (by rw [ZN.out]; omega)
              have CC := Lib.hid (show CQ[0 + 0]? = some (.int .i64 ((j : Int) + 1)) from ZZ.out ▸ cc')
              have KP := Lib.hid kp
              clear cc' kp
              by_cases h4 : kk = 4
              · have hj4 := HJ4.out h4
                have EL := Lib.hid (EL.out h4)
                subst h4
                obtain ⟨bp, offp, c0, c1, c2, c3, c4, c5, c6, c7, hap, hbh, hvv, e0, e1, e2, e3, e4, e5, e6, e7⟩ := AP.out j hj4
                subst hap
                have CE := Lib.hid (fun W hb => CE2.out j hj4 _ hvv W hb)
                have HJ := Lib.hid hj4
                have HBP := Lib.hid (Nat.lt_of_lt_of_le hbh hhi2.out)
                have E0 := Lib.hid e0
                have E1 := Lib.hid e1
                have E2 := Lib.hid e2
                have E3 := Lib.hid e3
                have E4 := Lib.hid e4
                have E5 := Lib.hid e5
                have E6 := Lib.hid e6
                have E7 := Lib.hid e7
                clear hj4 hvv hbh e0 e1 e2 e3 e4 e5 e6 e7 HJ4 EA AP CE2 CP
                obtain ⟨k0, k1, k2, k3, k4, k5, k6, k7⟩ := vec8 KA.out
                go_upto_region 11 with (fail)
                clear k0 k1 k2 k3 k4 k5 k6 k7
                have H := Lib.hid (show HeldC w _ ([(w.heap.size, 31, #[.int .i64 4, .slice ai items.length ci, .slice (some ⟨bp, offp, none⟩) parts.length cp, .slice an names.length cn, .slice ac cls.length cc, .slice al levels.length cl, .int .i64 code, .int .i64 env]), (g, 3, CQ)]) from heldC_two B4.out KA.out KP.out)
                refine run_regionT (ops := (opsOf Tryz.f12 11)) (S := fun w' => HeldC w w' ([(w.heap.size, 31, #[.int .i64 4, .slice ai items.length ci, .slice (some ⟨bp, offp, none⟩) parts.length cp, .slice an names.length cn, .slice ac cls.length cc, .slice al levels.length cl, .int .i64 code, .int .i64 env]), (g, 3, CQ)])) (.leaf [(0, true), (1, true), (2, true), (3, true), (4, true), (5, true), (6, true), (7, true), (8, false), (9, false), (10, true)]) (by kernel_rfl) (by kernel_rfl) (by kernel_rfl) (by kernel_rfl) (by kernel_rfl) (fun _ _ _ _ _ h => h) (heldC_drew H.out) ?_
                have H := Lib.hid (heldC_drew H.out)
                have NR := Lib.hid (NR.out.keep (below_drew' (Below.refl _ _)))
                refine runC_partV (b := w.heap.size) (by kernel_rfl) (show opAt (opsOf Tryz.f12 11) 0 = some (some 53, .fieldAddr 31 (.tmp 2) 2, none) from by kernel_rfl) (by kernel_rfl) (by kernel_rfl) (by kernel_rfl) ?_
                refine runC_cell (b := w.heap.size) (j := 2) (v := .slice (some ⟨bp, offp, none⟩) parts.length cp) load_vecs (show opAt (opsOf Tryz.f12 11) 1 = some (some 54, .load 29 (.tmp 53), none) from by kernel_rfl) (by kernel_rfl) (by kernel_rfl) (by kernel_rfl) (List.Mem.head _) rfl ?_
                refine run_mov (v := .slice (some ⟨g, 0, none⟩) 1 c) (show opAt (opsOf Tryz.f12 11) 2 = some (some 55, .move (.tmp 6), none) from by kernel_rfl) (by kernel_rfl) (by kernel_rfl) (by kernel_rfl) ?_
                refine run_idx1 (n := 1) (c := c) (b := g) (off := 0) (k := 0) (show opAt (opsOf Tryz.f12 11) 3 = some (some 56, .indexAddr 43 (.tmp 55) (.const (.int .i64 0)), none) from by kernel_rfl) (by kernel_rfl) (by kernel_rfl) (by kernel_rfl) (by kernel_rfl) (by omega) Tryz.underlying43 (by kernel_rfl) infoInt ?_
                refine runC_cell (b := g) (j := 0 + 0) (v := .int .i64 (((j : Int) + 1))) load_int (show opAt (opsOf Tryz.f12 11) 4 = some (some 57, .load 3 (.tmp 56), none) from by kernel_rfl) (by kernel_rfl) (by kernel_rfl) (by kernel_rfl) (List.Mem.tail _ (List.Mem.head _)) CC.out ?_
                refine run_sub (k := .i64) (p := ((j : Int) + 1)) (q := 1) (z := (j : Int)) (show opAt (opsOf Tryz.f12 11) 5 = some (some 58, .binOp .sub 3 (.tmp 57) (.const (.int .i64 1)) 3, none) from by kernel_rfl) (by kernel_rfl) (by kernel_rfl) (by kernel_rfl) (by kernel_rfl) ((wrap64_id (by have := BJ.out; omega) (by have := BJ.out; omega)).trans (by omega)) ?_
                refine run_idx8 (n := parts.length) (c := cp) (b := bp) (off := offp) (k := j) (show opAt (opsOf Tryz.f12 11) 6 = some (some 59, .indexAddr 29 (.tmp 54) (.tmp 58), none) from by kernel_rfl) (by kernel_rfl) (by kernel_rfl) (by kernel_rfl) (by kernel_rfl) HJ.out ?_
                refine runC_oldV (b := bp) (j := offp + j * 8) (show opAt (opsOf Tryz.f12 11) 7 = some (some 60, .load 31 (.tmp 59), none) from by kernel_rfl) (by kernel_rfl) (by kernel_rfl) (by kernel_rfl) HBP.out E0.out E1.out E2.out E3.out E4.out E5.out E6.out E7.out ?_
                refine run_call (args := [.agg #[c0, c1, c2, c3, c4, c5, c6, c7]]) (show opAt (opsOf Tryz.f12 11) 8 = some (some 61, .call { callee := .value (.func 39), args := [(.tmp 60)].toArray, argTypes := [31].toArray }, none) from by kernel_rfl) (by kernel_rfl) (by kernel_rfl) (by kernel_rfl) (by kernel_rfl) ?_
                refine (CE.out _ H.out.1).mono ?_
                rintro en ry1 ⟨yu, rfl, ho, hb⟩
                refine ⟨_, rfl, heldC_call H.out hb, ?_⟩
                obtain ⟨yuk, yua1, yun1, yum1, yua2, yun2, yum2, yua3, yun3, yum3, yua4, yun4, yum4, yua5, yun5, yum5, yuc, yue, rfl⟩ := ho.agg
                have UB := Lib.hid (Array.getElem?_eq_some_iff.1 NR.out.out).1
                have LU := Lib.hid H.out.1.size
                have H := Lib.hid (heldC_call H.out hb)
                have NR := Lib.hid (NR.out.keep hb)
                have OU := Lib.hid ho
                clear ho hb
                refine run_store (w' := World.setRow _ (w.heap.size + 1 + 1) #[.int .i64 yuk, .slice yua1 yun1 yum1, .slice yua2 yun2 yum2, .slice yua3 yun3 yum3, .slice yua4 yun4 yum4, .slice yua5 yun5 yum5, .int .i64 yuc, .int .i64 yue]) (show opAt (opsOf Tryz.f12 11) 9 = some (none, .store 31 (.tmp 4) (.tmp 61), none) from by kernel_rfl) (by kernel_rfl) (by kernel_rfl) (by kernel_rfl) (store_vec8 NR.out.out (by simp [Value.oneCell'])) (⟨below_row H.out.1 (by omega) _, fun q hq => row_old (H.out.2 q hq) (by have := GG.out; rcases List.mem_cons.1 hq with rfl | hq; (simp only; omega); obtain rfl := List.mem_singleton.1 hq; simp only; omega)⟩) ?_
                refine run_asg (v := .string ⟨#[]⟩) (show opAt (opsOf Tryz.f12 11) 10 = some (some 5, .assign (.const (.string ⟨#[]⟩)), none) from by kernel_rfl) (by kernel_rfl) (by kernel_rfl) (by kernel_rfl) ?_
                refine run_done ?_
                simp only [putAll, Act.put, List.setIfInBounds_toArray, List.set_cons_zero, List.set_cons_succ]
                go_wp2
                rw [XX.out.1, XX.out.2, EL.out]
                exact vec_ret0S rfl rfl rfl rfl (row_set NR.out.out) ⟨_, rfl, Own.le (Nat.le_succ d') ((OU.out.rowO (.inl UB.out)).wide LU.out (row_size _ _ _)), below_row H.out.1 (by omega) _⟩
                all_goals trivial
              · have EA := Lib.hid (EA.out h4)
                have h4b : (kk == 4) = false := beq_eq_false_iff_ne.2 h4
                obtain ⟨sa', c'', e, hi'⟩ := HZ.out.ints
                rw [ZN.out] at e hi'
                cases e
                have HI := Lib.hid (show IntsAt _ _ _ 1 (fun i => ixF [j] i + 1) from hi'.congr (fun i hi => by obtain rfl : i = 0 := (by omega); show Z.getD 0 0 = (j : Int) + 1; exact ZZ.out))
                have KR := Lib.hid NR.out.out
                clear hi' h4 HJ4 EL AP CE2 GC
                obtain ⟨k0, k1, k2, k3, k4, k5, k6, k7⟩ := vec8 KA.out
                go_wp2_with fail
                refine (CP.out _ _ _ B4.out HI.out).mono ?_
                rintro e w5 ⟨y, rfl, ho, hb⟩
                obtain ⟨yk, ya1, yn1, ym1, ya2, yn2, ym2, ya3, yn3, ym3, ya4, yn4, ym4, ya5, yn5, ym5, yc, ye, rfl⟩ := ho.agg
                have KR := Lib.hid (blk_below hb KR.out)
                have B5 := Lib.hid (below_then B4.out hb)
                have hr5 := (Array.getElem?_eq_some_iff.1 KR.out).1
                have BW := Lib.hid (show Below w5.heap.size w5 ((w5.alloc (.cells #[.int .i64 yk, .slice ya1 yn1 ym1, .slice ya2 yn2 ym2, .slice (some ⟨w5.heap.size + 1, 0, none⟩) 0 0, .slice ya4 yn4 ym4, .slice ya5 yn5 ym5, .int .i64 yc, .int .i64 ye] 31)).alloc (.cells #[] 9)) from (below1 w5 _).alloc (by simp) _)
                have KR := Lib.hid (blk_below BW.out KR.out)
                have B6 := Lib.hid (below_then B5.out BW.out)
                have HO := Lib.hid ((ho.noNames (some ⟨w5.heap.size + 1, 0, none⟩) 0).below BW.out (Nat.le_refl _))
                have S6 := Lib.hid (show w5.heap.size ≤ ((w5.alloc (.cells #[.int .i64 yk, .slice ya1 yn1 ym1, .slice ya2 yn2 ym2, .slice (some ⟨w5.heap.size + 1, 0, none⟩) 0 0, .slice ya4 yn4 ym4, .slice ya5 yn5 ym5, .int .i64 yc, .int .i64 ye] 31)).alloc (.cells #[] 9)).heap.size by simp; omega)
                have hr2 : w.heap.size + 1 + 1 < rx2.heap.size := (Array.getElem?_eq_some_iff.1 NR.out.out).1
                have S7 := Lib.hid B4.out.size
                clear HI CP KA LN LS IP HZ k0 k1 k2 k3 k4 k5 k6 k7 ho hb
                obtain ⟨z0, z1, z2, z3, z4, z5, z6, z7⟩ := vec8 KR.out
                obtain ⟨f0, f1, f2, f3, f4, f5, f6, f7⟩ := free8 KR.out
                go_wp2
                rw [XX.out.1, XX.out.2, EA.out]
                exact vec_endS rfl rfl rfl rfl KR.out ⟨_, rfl, (HO.out.put8 (by omega) _ _ _ _ _ _ _ _).wide S7.out (by rw [put8_size]; exact S6.out), put8_below B6.out (by omega)⟩
            · have XX := Lib.hid (XM.out (fun h => hp (OP.out.1 h).2.2))
              have IP := Lib.hid (by rw [decide_eq_false hp] at IP; exact IP.out : ∀ (W : World), Calls Tryz.prog 38 #[.int .i64 z, .int .i64 1, .int .i64 (L : Int)] W fun e w' => e = .returned (.bool false) ∧ W = w')
              clear hg0 hg1 gc XM XO OP hp LL hn hz CE2 HZ CP2 HJ42 EL EA AP KR
              go_upto_region 8 with (fail)
              have H := Lib.hid (show HeldC w3 w3 ([(w.heap.size, 31, #[.int .i64 kk, .slice ai items.length ci, .slice ap parts.length cp, .slice an names.length cn, .slice ac cls.length cc, .slice al levels.length cl, .int .i64 code, .int .i64 env]), (w.heap.size + 1, 31, #[.int .i64 sk, .slice sa1 sn1 sm1, .slice sa2 sn2 sm2, .slice sa3 sn3 sm3, .slice sa4 sn4 sm4, .slice sa5 sn5 sm5, .int .i64 sc, .int .i64 se])]) from heldC_two (Below.refl _ _) KA.out KB.out)
              refine run_regionT (ops := (opsOf Tryz.f12 8)) (S := fun w' => HeldC w3 w' ([(w.heap.size, 31, #[.int .i64 kk, .slice ai items.length ci, .slice ap parts.length cp, .slice an names.length cn, .slice ac cls.length cc, .slice al levels.length cl, .int .i64 code, .int .i64 env]), ((w.heap.size + 1), 31, #[.int .i64 sk, .slice sa1 sn1 sm1, .slice sa2 sn2 sm2, .slice sa3 sn3 sm3, .slice sa4 sn4 sm4, .slice sa5 sn5 sm5, .int .i64 sc, .int .i64 se])])) (.leaf [(0, true), (1, false), (2, true), (3, true), (4, true), (5, true), (6, true), (7, true), (8, true), (9, true), (10, true), (11, true), (12, true), (13, false), (14, false), (15, true), (16, true)]) (by kernel_rfl) (by kernel_rfl) (by kernel_rfl) (by kernel_rfl) (by kernel_rfl) (fun _ _ _ _ _ h => h) (heldC_drew H.out) ?_
              have H := Lib.hid (heldC_drew H.out)
              have NR := Lib.hid (NR.out.keep (below_drew' (Below.refl _ _)))
              refine runC_vec (b := (w.heap.size + 1)) (show opAt (opsOf Tryz.f12 8) 0 = some (some 32, .load 31 (.tmp 3), none) from by kernel_rfl) (by kernel_rfl) (by kernel_rfl) (by kernel_rfl) (List.Mem.tail _ (List.Mem.head _)) ?_
              refine run_call (args := [.agg #[.int .i64 sk, .slice sa1 sn1 sm1, .slice sa2 sn2 sm2, .slice sa3 sn3 sm3, .slice sa4 sn4 sm4, .slice sa5 sn5 sm5, .int .i64 sc, .int .i64 se]]) (show opAt (opsOf Tryz.f12 8) 1 = some (some 33, .call { callee := .value (.func 20), args := [(.tmp 32)].toArray, argTypes := [31].toArray }, none) from by kernel_rfl) (by kernel_rfl) (by kernel_rfl) (by kernel_rfl) (by kernel_rfl) ?_
              refine (LS.out _ (below_then B3.out H.out.1)).mono ?_
              rintro en rx1 ⟨rfl, hb⟩
              refine ⟨_, rfl, heldC_call H.out hb, ?_⟩
              have H := Lib.hid (heldC_call H.out hb)
              have NR := Lib.hid (NR.out.keep hb)
              clear hb
              refine run_cmp (k := .i64) (p := (M : Int)) (q := 1) (b := false) (show opAt (opsOf Tryz.f12 8) 2 = some (some 34, .binOp .neq 3 (.tmp 33) (.const (.int .i64 1)) 3, none) from by kernel_rfl) (by kernel_rfl) (by kernel_rfl) (by kernel_rfl) (by kernel_rfl) (congrArg some (bne_eq_false_iff_eq.2 (by omega))) ?_
              refine run_mov (v := .bool false) (show opAt (opsOf Tryz.f12 8) 3 = some (some 35, .move (.tmp 34), none) from by kernel_rfl) (by kernel_rfl) (by kernel_rfl) (by kernel_rfl) ?_
              refine run_mov (v := .slice (some ⟨g, 0, none⟩) 1 c) (show opAt (opsOf Tryz.f12 8) 4 = some (some 36, .move (.tmp 6), some (3, false)) from by kernel_rfl) (by kernel_rfl) (by kernel_rfl) (by kernel_rfl) ?_
              refine run_len (b := (some ⟨g, 0, none⟩)) (n := 1) (c := c) (show opAt (opsOf Tryz.f12 8) 5 = some (some 37, .call { callee := .builtin .len, args := [(.tmp 36)].toArray, argTypes := [43].toArray }, some (3, false)) from by kernel_rfl) (by kernel_rfl) (by kernel_rfl) (by kernel_rfl) (by kernel_rfl) ?_
              refine run_cmp (k := .i64) (p := 1) (q := 1) (b := false) (show opAt (opsOf Tryz.f12 8) 6 = some (some 38, .binOp .neq 3 (.tmp 37) (.const (.int .i64 1)) 3, some (3, false)) from by kernel_rfl) (by kernel_rfl) (by kernel_rfl) (by kernel_rfl) (by kernel_rfl) (congrArg some (bne_eq_false_iff_eq.2 rfl)) ?_
              refine run_pick (b := false) (v := .bool false) (show opAt (opsOf Tryz.f12 8) 7 = some (some 39, .pick (.tmp 35) (.const (.bool true)) (.tmp 38), none) from by kernel_rfl) (by kernel_rfl) (by kernel_rfl) (by kernel_rfl) (by kernel_rfl) ?_
              refine run_mov (v := .bool false) (show opAt (opsOf Tryz.f12 8) 8 = some (some 40, .move (.tmp 39), none) from by kernel_rfl) (by kernel_rfl) (by kernel_rfl) (by kernel_rfl) ?_
              refine run_mov (v := .slice (some ⟨g, 0, none⟩) 1 c) (show opAt (opsOf Tryz.f12 8) 9 = some (some 41, .move (.tmp 6), some (8, false)) from by kernel_rfl) (by kernel_rfl) (by kernel_rfl) (by kernel_rfl) ?_
              refine run_idx1 (n := 1) (c := c) (b := g) (off := 0) (k := 0) (show opAt (opsOf Tryz.f12 8) 10 = some (some 42, .indexAddr 43 (.tmp 41) (.const (.int .i64 0)), some (8, false)) from by kernel_rfl) (by kernel_rfl) (by kernel_rfl) (by kernel_rfl) (by kernel_rfl) (by omega) Tryz.underlying43 (by kernel_rfl) infoInt ?_
              refine runC_old (b := g) (j := 0 + 0) (v := .int .i64 z) load_int (show opAt (opsOf Tryz.f12 8) 11 = some (some 43, .load 3 (.tmp 42), some (8, false)) from by kernel_rfl) (by kernel_rfl) (by kernel_rfl) (by kernel_rfl) GL.out GC.out ?_
              refine runC_vec (b := w.heap.size) (show opAt (opsOf Tryz.f12 8) 12 = some (some 44, .load 31 (.tmp 2), some (8, false)) from by kernel_rfl) (by kernel_rfl) (by kernel_rfl) (by kernel_rfl) (List.Mem.head _) ?_
              refine run_call (args := [.agg #[.int .i64 kk, .slice ai items.length ci, .slice ap parts.length cp, .slice an names.length cn, .slice ac cls.length cc, .slice al levels.length cl, .int .i64 code, .int .i64 env]]) (show opAt (opsOf Tryz.f12 8) 13 = some (some 45, .call { callee := .value (.func 20), args := [(.tmp 44)].toArray, argTypes := [31].toArray }, some (8, false)) from by kernel_rfl) (by kernel_rfl) (by kernel_rfl) (by kernel_rfl) (by kernel_rfl) ?_
              refine (LN.out _ (below_then B3.out H.out.1)).mono ?_
              rintro en rx2 ⟨rfl, hb⟩
              refine ⟨_, rfl, heldC_call H.out hb, ?_⟩
              have H := Lib.hid (heldC_call H.out hb)
              have NR := Lib.hid (NR.out.keep hb)
              clear hb
              refine run_call (args := [.int .i64 z, .int .i64 1, .int .i64 ((L : Int))]) (show opAt (opsOf Tryz.f12 8) 14 = some (some 46, .call { callee := .value (.func 38), args := [(.tmp 43), (.const (.int .i64 1)), (.tmp 45)].toArray, argTypes := [3, 3, 3].toArray }, some (8, false)) from by kernel_rfl) (by kernel_rfl) (by kernel_rfl) (by kernel_rfl) (by kernel_rfl) ?_
              refine (IP.out _).mono ?_
              rintro en rx3 ⟨rfl, rfl⟩
              refine ⟨_, rfl, H.out, ?_⟩
              refine run_not (b := false) (show opAt (opsOf Tryz.f12 8) 15 = some (some 47, .unOp .not 4 (.tmp 46), some (8, false)) from by kernel_rfl) (by kernel_rfl) (by kernel_rfl) (by kernel_rfl) ?_
              refine run_pick (b := false) (v := .bool true) (show opAt (opsOf Tryz.f12 8) 16 = some (some 48, .pick (.tmp 40) (.const (.bool true)) (.tmp 47), none) from by kernel_rfl) (by kernel_rfl) (by kernel_rfl) (by kernel_rfl) (by kernel_rfl) ?_
              refine run_done ?_
              simp only [putAll, Act.put, List.setIfInBounds_toArray, List.set_cons_zero, List.set_cons_succ]
              have KR := Lib.hid NR.out.out
              have B4 := Lib.hid (below_then B3.out H.out.1)
              obtain ⟨z0, z1, z2, z3, z4, z5, z6, z7⟩ := vec8 KR.out
              obtain ⟨f0, f1, f2, f3, f4, f5, f6, f7⟩ := free8 KR.out
              go_wp2
              rw [XX.out.1, XX.out.2]
              exact vec_endS rfl rfl rfl rfl KR.out (zeroSD _ _ w _ (put8_below B4.out (by omega)))
          · have XX := Lib.hid (XM.out (fun h => hn (OP.out.1 h).2.1))
            obtain ⟨N, hN⟩ : ∃ x, Z.length = x := ⟨_, rfl⟩
            rw [hN] at hn ⊢
            clear XM XO OP LL CE2 HZ hN CP2 HJ42 EL EA AP KR
            go_upto_region 8 with (fail)
            have H := Lib.hid (show HeldC w3 w3 ([(w.heap.size, 31, #[.int .i64 kk, .slice ai items.length ci, .slice ap parts.length cp, .slice an names.length cn, .slice ac cls.length cc, .slice al levels.length cl, .int .i64 code, .int .i64 env]), (w.heap.size + 1, 31, #[.int .i64 sk, .slice sa1 sn1 sm1, .slice sa2 sn2 sm2, .slice sa3 sn3 sm3, .slice sa4 sn4 sm4, .slice sa5 sn5 sm5, .int .i64 sc, .int .i64 se])]) from heldC_two (Below.refl _ _) KA.out KB.out)
            refine run_regionT (ops := (opsOf Tryz.f12 8)) (S := fun w' => HeldC w3 w' ([(w.heap.size, 31, #[.int .i64 kk, .slice ai items.length ci, .slice ap parts.length cp, .slice an names.length cn, .slice ac cls.length cc, .slice al levels.length cl, .int .i64 code, .int .i64 env]), ((w.heap.size + 1), 31, #[.int .i64 sk, .slice sa1 sn1 sm1, .slice sa2 sn2 sm2, .slice sa3 sn3 sm3, .slice sa4 sn4 sm4, .slice sa5 sn5 sm5, .int .i64 sc, .int .i64 se])])) (.leaf [(0, true), (1, false), (2, true), (3, true), (4, true), (5, true), (6, true), (7, true), (8, true), (9, true), (10, true), (11, true), (12, true), (13, false), (14, false), (15, true), (16, true)]) (by kernel_rfl) (by kernel_rfl) (by kernel_rfl) (by kernel_rfl) (by kernel_rfl) (fun _ _ _ _ _ h => h) (heldC_drew H.out) ?_
            have H := Lib.hid (heldC_drew H.out)
            have NR := Lib.hid (NR.out.keep (below_drew' (Below.refl _ _)))
            refine runC_vec (b := (w.heap.size + 1)) (show opAt (opsOf Tryz.f12 8) 0 = some (some 32, .load 31 (.tmp 3), none) from by kernel_rfl) (by kernel_rfl) (by kernel_rfl) (by kernel_rfl) (List.Mem.tail _ (List.Mem.head _)) ?_
            refine run_call (args := [.agg #[.int .i64 sk, .slice sa1 sn1 sm1, .slice sa2 sn2 sm2, .slice sa3 sn3 sm3, .slice sa4 sn4 sm4, .slice sa5 sn5 sm5, .int .i64 sc, .int .i64 se]]) (show opAt (opsOf Tryz.f12 8) 1 = some (some 33, .call { callee := .value (.func 20), args := [(.tmp 32)].toArray, argTypes := [31].toArray }, none) from by kernel_rfl) (by kernel_rfl) (by kernel_rfl) (by kernel_rfl) (by kernel_rfl) ?_
            refine (LS.out _ (below_then B3.out H.out.1)).mono ?_
            rintro en rx1 ⟨rfl, hb⟩
            refine ⟨_, rfl, heldC_call H.out hb, ?_⟩
            have H := Lib.hid (heldC_call H.out hb)
            have NR := Lib.hid (NR.out.keep hb)
            clear hb
            refine run_cmp (k := .i64) (p := (M : Int)) (q := 1) (b := false) (show opAt (opsOf Tryz.f12 8) 2 = some (some 34, .binOp .neq 3 (.tmp 33) (.const (.int .i64 1)) 3, none) from by kernel_rfl) (by kernel_rfl) (by kernel_rfl) (by kernel_rfl) (by kernel_rfl) (congrArg some (bne_eq_false_iff_eq.2 (by omega))) ?_
            refine run_mov (v := .bool false) (show opAt (opsOf Tryz.f12 8) 3 = some (some 35, .move (.tmp 34), none) from by kernel_rfl) (by kernel_rfl) (by kernel_rfl) (by kernel_rfl) ?_
            refine run_mov (v := .slice sa N c) (show opAt (opsOf Tryz.f12 8) 4 = some (some 36, .move (.tmp 6), some (3, false)) from by kernel_rfl) (by kernel_rfl) (by kernel_rfl) (by kernel_rfl) ?_
            refine run_len (b := sa) (n := N) (c := c) (show opAt (opsOf Tryz.f12 8) 5 = some (some 37, .call { callee := .builtin .len, args := [(.tmp 36)].toArray, argTypes := [43].toArray }, some (3, false)) from by kernel_rfl) (by kernel_rfl) (by kernel_rfl) (by kernel_rfl) (by kernel_rfl) ?_
            refine run_cmp (k := .i64) (p := (N : Int)) (q := 1) (b := true) (show opAt (opsOf Tryz.f12 8) 6 = some (some 38, .binOp .neq 3 (.tmp 37) (.const (.int .i64 1)) 3, some (3, false)) from by kernel_rfl) (by kernel_rfl) (by kernel_rfl) (by kernel_rfl) (by kernel_rfl) (congrArg some (bne_iff_ne.2 (by omega))) ?_
            refine run_pick (b := false) (v := .bool true) (show opAt (opsOf Tryz.f12 8) 7 = some (some 39, .pick (.tmp 35) (.const (.bool true)) (.tmp 38), none) from by kernel_rfl) (by kernel_rfl) (by kernel_rfl) (by kernel_rfl) (by kernel_rfl) ?_
            refine run_mov (v := .bool true) (show opAt (opsOf Tryz.f12 8) 8 = some (some 40, .move (.tmp 39), none) from by kernel_rfl) (by kernel_rfl) (by kernel_rfl) (by kernel_rfl) ?_
            refine run_skip (show opAt (opsOf Tryz.f12 8) 9 = some (some 41, .move (.tmp 6), some (8, false)) from by kernel_rfl) (by kernel_rfl) (by kernel_rfl) ?_
            refine run_skip (show opAt (opsOf Tryz.f12 8) 10 = some (some 42, .indexAddr 43 (.tmp 41) (.const (.int .i64 0)), some (8, false)) from by kernel_rfl) (by kernel_rfl) (by kernel_rfl) ?_
            refine run_skip (show opAt (opsOf Tryz.f12 8) 11 = some (some 43, .load 3 (.tmp 42), some (8, false)) from by kernel_rfl) (by kernel_rfl) (by kernel_rfl) ?_
            refine run_skip (show opAt (opsOf Tryz.f12 8) 12 = some (some 44, .load 31 (.tmp 2), some (8, false)) from by kernel_rfl) (by kernel_rfl) (by kernel_rfl) ?_
            refine run_pass (show opAt (opsOf Tryz.f12 8) 13 = some (some 45, .call { callee := .value (.func 20), args := [(.tmp 44)].toArray, argTypes := [31].toArray }, some (8, false)) from by kernel_rfl) (by kernel_rfl) (by kernel_rfl) H.out ?_
            refine run_pass (show opAt (opsOf Tryz.f12 8) 14 = some (some 46, .call { callee := .value (.func 38), args := [(.tmp 43), (.const (.int .i64 1)), (.tmp 45)].toArray, argTypes := [3, 3, 3].toArray }, some (8, false)) from by kernel_rfl) (by kernel_rfl) (by kernel_rfl) H.out ?_
            refine run_skip (show opAt (opsOf Tryz.f12 8) 15 = some (some 47, .unOp .not 4 (.tmp 46), some (8, false)) from by kernel_rfl) (by kernel_rfl) (by kernel_rfl) ?_
            refine run_pick (b := true) (v := .bool true) (show opAt (opsOf Tryz.f12 8) 16 = some (some 48, .pick (.tmp 40) (.const (.bool true)) (.tmp 47), none) from by kernel_rfl) (by kernel_rfl) (by kernel_rfl) (by kernel_rfl) (by kernel_rfl) ?_
            refine run_done ?_
            simp only [putAll, Act.put, List.setIfInBounds_toArray, List.set_cons_zero, List.set_cons_succ]
            have KR := Lib.hid NR.out.out
            have B4 := Lib.hid (below_then B3.out H.out.1)
            obtain ⟨z0, z1, z2, z3, z4, z5, z6, z7⟩ := vec8 KR.out
            obtain ⟨f0, f1, f2, f3, f4, f5, f6, f7⟩ := free8 KR.out
            go_wp2
            rw [XX.out.1, XX.out.2]
            exact vec_endS rfl rfl rfl rfl KR.out (zeroSD _ _ w _ (put8_below B4.out (by omega)))
        · have XX := Lib.hid (XM.out (fun h => hm (OP.out.1 h).1))
          obtain ⟨N, hN⟩ : ∃ x, Z.length = x := ⟨_, rfl⟩
          rw [hN]
          clear XM XO OP LL CE2 HZ hN CP2 HJ42 EL EA AP KR
          go_upto_region 8 with (fail)
          have H := Lib.hid (show HeldC w3 w3 ([(w.heap.size, 31, #[.int .i64 kk, .slice ai items.length ci, .slice ap parts.length cp, .slice an names.length cn, .slice ac cls.length cc, .slice al levels.length cl, .int .i64 code, .int .i64 env]), (w.heap.size + 1, 31, #[.int .i64 sk, .slice sa1 sn1 sm1, .slice sa2 sn2 sm2, .slice sa3 sn3 sm3, .slice sa4 sn4 sm4, .slice sa5 sn5 sm5, .int .i64 sc, .int .i64 se])]) from heldC_two (Below.refl _ _) KA.out KB.out)
          refine run_regionT (ops := (opsOf Tryz.f12 8)) (S := fun w' => HeldC w3 w' ([(w.heap.size, 31, #[.int .i64 kk, .slice ai items.length ci, .slice ap parts.length cp, .slice an names.length cn, .slice ac cls.length cc, .slice al levels.length cl, .int .i64 code, .int .i64 env]), ((w.heap.size + 1), 31, #[.int .i64 sk, .slice sa1 sn1 sm1, .slice sa2 sn2 sm2, .slice sa3 sn3 sm3, .slice sa4 sn4 sm4, .slice sa5 sn5 sm5, .int .i64 sc, .int .i64 se])])) (.leaf [(0, true), (1, false), (2, true), (3, true), (4, true), (5, true), (6, true), (7, true), (8, true), (9, true), (10, true), (11, true), (12, true), (13, false), (14, false), (15, true), (16, true)]) (by kernel_rfl) (by kernel_rfl) (by kernel_rfl) (by kernel_rfl) (by kernel_rfl) (fun _ _ _ _ _ h => h) (heldC_drew H.out) ?_
          have H := Lib.hid (heldC_drew H.out)
          have NR := Lib.hid (NR.out.keep (below_drew' (Below.refl _ _)))
          refine runC_vec (b := (w.heap.size + 1)) (show opAt (opsOf Tryz.f12 8) 0 = some (some 32, .load 31 (.tmp 3), none) from by kernel_rfl) (by kernel_rfl) (by kernel_rfl) (by kernel_rfl) (List.Mem.tail _ (List.Mem.head _)) ?_
          refine run_call (args := [.agg #[.int .i64 sk, .slice sa1 sn1 sm1, .slice sa2 sn2 sm2, .slice sa3 sn3 sm3, .slice sa4 sn4 sm4, .slice sa5 sn5 sm5, .int .i64 sc, .int .i64 se]]) (show opAt (opsOf Tryz.f12 8) 1 = some (some 33, .call { callee := .value (.func 20), args := [(.tmp 32)].toArray, argTypes := [31].toArray }, none) from by kernel_rfl) (by kernel_rfl) (by kernel_rfl) (by kernel_rfl) (by kernel_rfl) ?_
          refine (LS.out _ (below_then B3.out H.out.1)).mono ?_
          rintro en rx1 ⟨rfl, hb⟩
          refine ⟨_, rfl, heldC_call H.out hb, ?_⟩
          have H := Lib.hid (heldC_call H.out hb)
          have NR := Lib.hid (NR.out.keep hb)
          clear hb
          refine run_cmp (k := .i64) (p := (M : Int)) (q := 1) (b := true) (show opAt (opsOf Tryz.f12 8) 2 = some (some 34, .binOp .neq 3 (.tmp 33) (.const (.int .i64 1)) 3, none) from by kernel_rfl) (by kernel_rfl) (by kernel_rfl) (by kernel_rfl) (by kernel_rfl) (congrArg some (bne_iff_ne.2 (by omega))) ?_
          refine run_mov (v := .bool true) (show opAt (opsOf Tryz.f12 8) 3 = some (some 35, .move (.tmp 34), none) from by kernel_rfl) (by kernel_rfl) (by kernel_rfl) (by kernel_rfl) ?_
          refine run_skip (show opAt (opsOf Tryz.f12 8) 4 = some (some 36, .move (.tmp 6), some (3, false)) from by kernel_rfl) (by kernel_rfl) (by kernel_rfl) ?_
          refine run_skip (show opAt (opsOf Tryz.f12 8) 5 = some (some 37, .call { callee := .builtin .len, args := [(.tmp 36)].toArray, argTypes := [43].toArray }, some (3, false)) from by kernel_rfl) (by kernel_rfl) (by kernel_rfl) ?_
          refine run_skip (show opAt (opsOf Tryz.f12 8) 6 = some (some 38, .binOp .neq 3 (.tmp 37) (.const (.int .i64 1)) 3, some (3, false)) from by kernel_rfl) (by kernel_rfl) (by kernel_rfl) ?_
          refine run_pick (b := true) (v := .bool true) (show opAt (opsOf Tryz.f12 8) 7 = some (some 39, .pick (.tmp 35) (.const (.bool true)) (.tmp 38), none) from by kernel_rfl) (by kernel_rfl) (by kernel_rfl) (by kernel_rfl) (by kernel_rfl) ?_
          refine run_mov (v := .bool true) (show opAt (opsOf Tryz.f12 8) 8 = some (some 40, .move (.tmp 39), none) from by kernel_rfl) (by kernel_rfl) (by kernel_rfl) (by kernel_rfl) ?_
          refine run_skip (show opAt (opsOf Tryz.f12 8) 9 = some (some 41, .move (.tmp 6), some (8, false)) from by kernel_rfl) (by kernel_rfl) (by kernel_rfl) ?_
          refine run_skip (show opAt (opsOf Tryz.f12 8) 10 = some (some 42, .indexAddr 43 (.tmp 41) (.const (.int .i64 0)), some (8, false)) from by kernel_rfl) (by kernel_rfl) (by kernel_rfl) ?_
          refine run_skip (show opAt (opsOf Tryz.f12 8) 11 = some (some 43, .load 3 (.tmp 42), some (8, false)) from by kernel_rfl) (by kernel_rfl) (by kernel_rfl) ?_
          refine run_skip (show opAt (opsOf Tryz.f12 8) 12 = some (some 44, .load 31 (.tmp 2), some (8, false)) from by kernel_rfl) (by kernel_rfl) (by kernel_rfl) ?_
          refine run_pass (show opAt (opsOf Tryz.f12 8) 13 = some (some 45, .call { callee := .value (.func 20), args := [(.tmp 44)].toArray, argTypes := [31].toArray }, some (8, false)) from by kernel_rfl) (by kernel_rfl) (by kernel_rfl) H.out ?_
          refine run_pass (show opAt (opsOf Tryz.f12 8) 14 = some (some 46, .call { callee := .value (.func 38), args := [(.tmp 43), (.const (.int .i64 1)), (.tmp 45)].toArray, argTypes := [3, 3, 3].toArray }, some (8, false)) from by kernel_rfl) (by kernel_rfl) (by kernel_rfl) H.out ?_
          refine run_skip (show opAt (opsOf Tryz.f12 8) 15 = some (some 47, .unOp .not 4 (.tmp 46), some (8, false)) from by kernel_rfl) (by kernel_rfl) (by kernel_rfl) ?_
          refine run_pick (b := true) (v := .bool true) (show opAt (opsOf Tryz.f12 8) 16 = some (some 48, .pick (.tmp 40) (.const (.bool true)) (.tmp 47), none) from by kernel_rfl) (by kernel_rfl) (by kernel_rfl) (by kernel_rfl) (by kernel_rfl) ?_
          refine run_done ?_
          simp only [putAll, Act.put, List.setIfInBounds_toArray, List.set_cons_zero, List.set_cons_succ]
          have KR := Lib.hid NR.out.out
          have B4 := Lib.hid (below_then B3.out H.out.1)
          obtain ⟨z0, z1, z2, z3, z4, z5, z6, z7⟩ := vec8 KR.out
          obtain ⟨f0, f1, f2, f3, f4, f5, f6, f7⟩ := free8 KR.out
          go_wp2
          rw [XX.out.1, XX.out.2]
          exact vec_endS rfl rfl rfl rfl KR.out (zeroSD _ _ w _ (put8_below B4.out (by omega)))
      · have XX := Lib.hid (XB.out hR)
        have hRb : (R.toList == []) = false := by have h := str_not hR; rw [ByteArray.toList_eq ⟨#[]⟩] at h; exact h
        have KR := Lib.hid NR.out.out
        clear hR XM XO XB OP LL CE2 LS CR HZ CP2 HJ42 EL EA AP
        obtain ⟨z0, z1, z2, z3, z4, z5, z6, z7⟩ := vec8 KR.out
        obtain ⟨f0, f1, f2, f3, f4, f5, f6, f7⟩ := free8 KR.out
        go_wp2
        rw [XX.out.1, XX.out.2]
        exact vec_endS rfl rfl rfl rfl KR.out (zeroSD _ _ w _ (put8_below B3.out (by omega)))
  · rw [bB_no q]
    have XX := Lib.hid (by have h := RB.out q; have h2 := XB.out (fun e => by rw [h.2] at e; exact absurd e (by decide)); rw [h.2] at h2; exact h2 : EV = noV ∧ ES = badB)
    clear q XK XB XM XO RB RF RV OP CE EL EA AP HJ4 CP CR LN LS LL
    go_wp2_with fail
    with_reducible refine (specBad _).mono ?_
    rintro e w3 ⟨rfl, b⟩
    have B2 := Lib.hid (below_then B2.out b)
    have KR := Lib.hid (blk_below b KR.out)
    clear b
    obtain ⟨z0, z1, z2, z3, z4, z5, z6, z7⟩ := vec8 KR.out
    obtain ⟨f0, f1, f2, f3, f4, f5, f6, f7⟩ := free8 KR.out
    go_wp2
    rw [XX.out.1, XX.out.2]
    exact vec_endS rfl rfl rfl rfl KR.out (zeroSD _ _ w _ (put8_below B2.out (by omega)))
end Go.Proofs.YtpekdmocgjjhnaaGreat
