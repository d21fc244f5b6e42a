/- The laws' own marks in whole vectors: lists of vectors, by induction on the depth. -/
import Derived.Test.YteoalkjngkcheaaRows
import Derived.Test.YteoalkjngkcheaaVecMk3
import Derived.WalkKit
import Derived.Lib.Hide
namespace Go.Proofs.Yteoalkjngkcheaa
set_option maxRecDepth 100000
open Go.RowKit
set_option linter.unusedVariables false

theorem flat_disj {Fs : List (List Nat)} (nd : Fs.flatten.Nodup) {i j : Nat} (hi : i < Fs.length) (hj : j < Fs.length) (hne : i ≠ j) {g : Nat} (h : g ∈ Fs.getD i []) : g ∉ Fs.getD j [] := by
  have hp := (List.pairwise_flatten.1 nd).2
  rw [List.getD_eq_getElem?_getD, List.getElem?_eq_getElem hi] at h
  rw [List.getD_eq_getElem?_getD, List.getElem?_eq_getElem hj]
  intro k
  have hq := List.pairwise_iff_getElem.1 hp
  rcases Nat.lt_or_gt_of_ne hne with e | e
  · exact hq i j hi hj e g h g k rfl
  · exact hq j i hj hi e g k g h rfl
theorem flat_one {Fs : List (List Nat)} (nd : Fs.flatten.Nodup) {j : Nat} (hj : j < Fs.length) : (Fs.getD j []).Nodup := by
  have hp := (List.pairwise_flatten.1 nd).1
  rw [List.getD_eq_getElem?_getD, List.getElem?_eq_getElem hj]
  exact hp _ (List.getElem_mem hj)
/-- A row of vectors whose first j are marked. -/
def RowM (w : World) (D b n j k : Nat) (parts : List Vec) (Fs : List (List Nat)) : Prop := ∃ C, w.heap[b]? = some (.cells C 31 (0, 0)) ∧ n * 8 ≤ C.size ∧
  ∀ i, i < n → ∃ val, OwnVec w D (if i < j then markP D k parts i else parts.getD i noV) val (Fs.getD i []) ∧ Eight C i val
theorem eight_ne {C : Array Value} {i p : Nat} {x val : Value} (h : Eight C i val) (hp : p < i * 8 ∨ i * 8 + 7 < p) : Eight (C.setIfInBounds p x) i val := by
  obtain ⟨c0, c1, c2, c3, c4, c5, c6, c7, rfl, m0, m1, m2, m3, m4, m5, m6, m7⟩ := h
  refine ⟨c0, c1, c2, c3, c4, c5, c6, c7, rfl, ?_, ?_, ?_, ?_, ?_, ?_, ?_, ?_⟩ <;> (rw [Array.getElem?_setIfInBounds_ne (by omega)]; assumption)
theorem RowM.step {D b n j k : Nat} {parts : List Vec} {Fs : List (List Nat)} {wr w6 : World} {C : Array Value} {x0 c1 c2 c3 c4 c5 x6 x7 : Value} (hj : j < n) (hlen : Fs.length = n) (nd : (b :: Fs.flatten).Nodup) (lt : ∀ g ∈ b :: Fs.flatten, g < wr.heap.size)
    (hC : wr.heap[b]? = some (.cells C 31 (0, 0))) (hn : n * 8 ≤ C.size) (hrow : ∀ i, i < n → ∃ val, OwnVec wr D (if i < j then markP D k parts i else parts.getD i noV) val (Fs.getD i []) ∧ Eight C i val)
    (hE : C[j * 8 + 1]? = some c1 ∧ C[j * 8 + 2]? = some c2 ∧ C[j * 8 + 3]? = some c3 ∧ C[j * 8 + 4]? = some c4 ∧ C[j * 8 + 5]? = some c5)
    (hT : Touch (Fs.getD j []) (wr.setCell ⟨b, j * 8, none⟩ x0) w6) (hO : OwnVec w6 D (markP D k parts j) (.agg #[x0, c1, c2, c3, c4, c5, x6, x7]) (Fs.getD j [])) :
    RowM ((w6.setCell ⟨b, j * 8 + 6, none⟩ x6).setCell ⟨b, j * 8 + 7, none⟩ x7) D b n (j + 1) k parts Fs := by
  have hb : b ∉ Fs.flatten := (List.nodup_cons.1 nd).1
  have ndF := (List.nodup_cons.1 nd).2
  have hbj : b ∉ Fs.getD j [] := fun h => hb (mem_flat (by omega) h)
  have B6 : w6.heap[b]? = some (.cells (C.setIfInBounds (j * 8) x0) 31 (0, 0)) := by
    rw [hT.block b (by simpa using lt b (List.mem_cons_self ..)) hbj]
    exact Joins.block_setCell hC x0
  have keep : ∀ g, g ≠ b → ((w6.setCell ⟨b, j * 8 + 6, none⟩ x6).setCell ⟨b, j * 8 + 7, none⟩ x7).heap[g]? = w6.heap[g]? := fun g hg => by
    rw [Below.heap_setCell _ _ _ _ hg, Below.heap_setCell _ _ _ _ hg]
  refine ⟨_, Joins.block_setCell (Joins.block_setCell B6 x6) x7, by simpa using hn, fun i hi => ?_⟩
  by_cases e : i = j
  · subst e
    rw [if_pos (by omega)]
    refine ⟨_, hO.kept _ _ _ _ (fun g hg => keep g (fun e => hbj (e ▸ hg))), x0, c1, c2, c3, c4, c5, x6, x7, rfl, ?_, ?_, ?_, ?_, ?_, ?_, ?_, ?_⟩
    · have : i * 8 < C.size := by omega
      rw [Array.getElem?_setIfInBounds_ne (by omega), Array.getElem?_setIfInBounds_ne (by omega)]
      simp [this]
    · rw [Array.getElem?_setIfInBounds_ne (by omega), Array.getElem?_setIfInBounds_ne (by omega), Array.getElem?_setIfInBounds_ne (by omega)]; exact hE.1
    · rw [Array.getElem?_setIfInBounds_ne (by omega), Array.getElem?_setIfInBounds_ne (by omega), Array.getElem?_setIfInBounds_ne (by omega)]; exact hE.2.1
    · rw [Array.getElem?_setIfInBounds_ne (by omega), Array.getElem?_setIfInBounds_ne (by omega), Array.getElem?_setIfInBounds_ne (by omega)]; exact hE.2.2.1
    · rw [Array.getElem?_setIfInBounds_ne (by omega), Array.getElem?_setIfInBounds_ne (by omega), Array.getElem?_setIfInBounds_ne (by omega)]; exact hE.2.2.2.1
    · rw [Array.getElem?_setIfInBounds_ne (by omega), Array.getElem?_setIfInBounds_ne (by omega), Array.getElem?_setIfInBounds_ne (by omega)]; exact hE.2.2.2.2
    · have : i * 8 + 6 < C.size := by omega
      rw [Array.getElem?_setIfInBounds_ne (by omega)]
      simp [this]
    · have : i * 8 + 7 < C.size := by omega
      simp [this]
  · obtain ⟨val, hv, he⟩ := hrow i hi
    have ec : (if i < j + 1 then markP D k parts i else parts.getD i noV) = (if i < j then markP D k parts i else parts.getD i noV) := by
      by_cases h : i < j
      · rw [if_pos h, if_pos (by omega)]
      · rw [if_neg h, if_neg (by omega)]
    rw [ec]
    refine ⟨val, hv.kept _ _ _ _ (fun g hg => ?_), eight_ne (eight_ne (eight_ne he (by omega)) (by omega)) (by omega)⟩
    have hgb : g ≠ b := fun e' => hb (e' ▸ mem_flat (by omega) hg)
    rw [keep g hgb, hT.block g (by simpa using lt g (List.mem_cons.2 (.inr (mem_flat (by omega) hg)))) (flat_disj ndF (by omega) (by omega) e hg)]
    exact Below.heap_setCell _ _ _ _ hgb
theorem RowM.own {w : World} {D b k : Nat} {parts : List Vec} {Fs : List (List Nat)} (h : RowM w D b parts.length parts.length k parts Fs) (hl : Fs.length = parts.length) : OwnPs w D (some ⟨b, 0, none⟩) (markPs D k parts) (b :: Fs.flatten) := by
  obtain ⟨C, hC, hn, hr⟩ := h
  refine .inr ⟨b, C, Fs, rfl, by rw [markPs_len]; exact hl, rfl, hC, by rw [markPs_len]; exact hn, fun i hi => ?_⟩
  rw [markPs_len] at hi
  rw [markPs_at hi]
  have h := hr i hi
  rw [if_pos hi] at h
  exact h
set_option maxHeartbeats 1000000 in
theorem mkNone (ap : Option Addr) (cp k : Nat) (w : World) :
    Calls Try.prog 39 #[.slice ap 0 cp, .int .i64 k] w fun e w' => e = .returned (.int .i64 k) ∧ w = w' := by
  go_enter Try.func39, Try.ntmps39
  go_wp2
  go_loopw [1, 5] (fun kv iv wr => kv = .int .i64 k ∧ iv = .int .i64 0 ∧ wr = w) (fun _ _ _ => 0)
  case atStart => exact ⟨rfl, rfl, rfl⟩
  case round =>
    obtain ⟨rfl, rfl, rfl⟩ := hrel
    go_wp2
    go_ret
    exact ⟨rfl, rfl⟩
theorem setP_mk (o c : Nat) (kk : Int) (it : List It) (pa : List Vec) (na cl le : List ByteArray) (co en : Int) : setP o c (.mk kk it pa na cl le co en) = .mk o it pa na cl le ((o + 1 + c : Nat) : Int) ((o + 2 + c : Nat) : Int) := rfl
theorem cntP_at {d : Nat} {parts : List Vec} {j n : Nat} (h : j < n) : cntP d parts j + (cntM d (parts.getD j noV) + 3) ≤ cntP d parts n := sumN_at (fun i => cntM d (parts.getD i noV) + 3) h
theorem cntP_succ {d : Nat} {parts : List Vec} {j : Nat} : cntP d parts (j + 1) = cntP d parts j + (cntM d (parts.getD j noV) + 3) := rfl

set_option maxHeartbeats 8000000 in
theorem mpStep (d : Nat) (MP : MPOk d) : MPOk (d + 1) := by
  refine ⟨fun parts ap cp k Fp w h nd lt lp hsp h1 hk => ?_⟩
  rcases h with ⟨rfl, rfl⟩ | ⟨b, C0, Fs, rfl, hl, rfl, hb, hc, hp⟩
  · refine (mkNone ap cp k w).mono ?_
    rintro e w' ⟨rfl, rfl⟩
    exact ⟨by simp [cntP, sumN], .inl ⟨rfl, rfl⟩, Touch.refl _ _⟩
  have R0 := Lib.hid (show RowM w (d + 1) b parts.length 0 k parts Fs from ⟨C0, hb, hc, fun i hi => by rw [if_neg (Nat.not_lt_zero _)]; exact hp i hi⟩)
  have HS := Lib.hid hsp
  have HK := Lib.hid (fun (j : Nat) (hj : j < parts.length) => (by have := cntP_at (d := d + 1) (parts := parts) hj; omega : k + cntP (d + 1) parts j + (cntM (d + 1) (parts.getD j noV) + 3) ≤ 8000000))
  have ND := Lib.hid nd
  have LT := Lib.hid lt
  have HL := Lib.hid hl
  have OWN := Lib.hid (fun (W : World) (h : RowM W (d + 1) b parts.length parts.length k parts Fs) => h.own hl)
  clear hb hc hp hsp nd lt hl
  obtain ⟨np, hnp⟩ : ∃ x, parts.length = x := ⟨_, rfl⟩
  have EP := Lib.hid hnp
  rw [hnp] at R0 HS HK HL OWN lp hk ⊢
  clear hnp
  go_enter Try.func39, Try.ntmps39
  go_wp2
  go_loopw [1, 5] (fun kv iv wr => ∃ j : Nat, j ≤ np ∧ iv = .int .i64 j ∧ kv = .int .i64 ((k : Int) + (cntP (d + 1) parts j : Int)) ∧ RowM wr (d + 1) b np j k parts Fs ∧ Touch (b :: Fs.flatten) w wr) (fun _ iv _ => np - (intOf iv).toNat)
  case atStart => exact ⟨0, Nat.zero_le _, rfl, int_eqK (by simp [cntP, sumN]), R0.out, Touch.refl _ _⟩
  case round =>
    obtain ⟨j, hj, rfl, rfl, hr, ht⟩ := hrel
    by_cases hlt : j < np
    · have hKb := HK.out j hlt
      have hsm := HS.out j hlt
      obtain ⟨C, hC, hn, hrow⟩ := hr
      have TT := Lib.hid ht
      have LT1 := Lib.hid (fun g hg => Nat.lt_of_lt_of_le (LT.out g hg) ht.size : ∀ g ∈ b :: Fs.flatten, g < wr.heap.size)
      have HC := Lib.hid hC
      have HR := Lib.hid hrow
      have STEP := Lib.hid (fun (w6 : World) (x0 c1 c2 c3 c4 c5 x6 x7 : Value) hE hT hO => RowM.step (w6 := w6) (x0 := x0) (c1 := c1) (c2 := c2) (c3 := c3) (c4 := c4) (c5 := c5) (x6 := x6) (x7 := x7) hlt HL.out ND.out LT1.out hC hn hrow hE hT hO)
      have hrj := hrow j hlt
      rw [if_neg (Nat.lt_irrefl j)] at hrj
      obtain ⟨val, hv, he⟩ := hrj
      have PE := Lib.hid (Eq.refl (markP (d + 1) k parts j))
      have CNT := Lib.hid (cntP_succ (d := d + 1) (parts := parts) (j := j))
      obtain ⟨V, hV⟩ : ∃ V, parts.getD j noV = V := ⟨_, rfl⟩
      have hP : markP (d + 1) k parts j = setP (k + cntP (d + 1) parts j) (cntM (d + 1) V) (markV (d + 1) (k + cntP (d + 1) parts j + 1) V) := by unfold markP; rw [hV]
      rw [hV] at hsm hv hKb CNT
      obtain ⟨Fj, hFj⟩ : ∃ G, Fs.getD j [] = G := ⟨_, rfl⟩
      have hlF : Fs.length = np := HL.out
      have ndj : Fj.Nodup := hFj ▸ flat_one (List.nodup_cons.1 ND.out).2 (by omega)
      have ltj : ∀ g ∈ Fj, g < wr.heap.size := fun g hg => LT1.out g (List.mem_cons.2 (.inr (mem_flat (i := j) (by omega) (hFj ▸ hg))))
      have bj : b ∉ Fj := fun h => (List.nodup_cons.1 ND.out).1 (mem_flat (i := j) (by omega) (hFj ▸ h))
      have hsub : ∀ g ∈ Fj, g ∈ b :: Fs.flatten := fun g hg => List.mem_cons.2 (.inr (mem_flat (i := j) (by omega) (hFj ▸ hg)))
      rw [hFj] at hv STEP
      rw [hP] at STEP
      clear ht hrow hFj hV hP HR PE
      obtain ⟨kk, items, qs, names, cls, levels, code, env⟩ := V
      obtain ⟨d', ai, ci, aq, cq, an, cn, ac, cc, al, cl, Fi, Fq, Fn, Fc, Fl, ed, rfl, rfl, hCp, O1, O2, O3, O4, O5⟩ := ownVec_open hv
      obtain rfl : d = d' := by omega
      obtain ⟨e0, e1, e2, e3, e4, e5, e6, e7, heq, m0, m1, m2, m3, m4, m5, m6, m7⟩ := he
      simp only [Value.agg.injEq, Array.mk.injEq, List.cons.injEq, and_true] at heq
      obtain ⟨rfl, rfl, rfl, rfl, rfl, rfl, rfl, rfl⟩ := heq
      have hsq : ∀ i, i < qs.length → Small d (qs.getD i noV) := fun i hi => Small.part hsm hi
      obtain ⟨li, lq, ln, lc, ll, _⟩ := hsm
      rw [cntM_eq] at hKb CNT STEP
      rw [markV_eq, setP_mk] at STEP
      obtain ⟨d1, d2, d3, d4, d5, ndP⟩ := five_disj ndj
      obtain ⟨K, hK⟩ : ∃ K, k + cntP (d + 1) parts j = K := ⟨_, rfl⟩
      have hKi : (k : Int) + (cntP (d + 1) parts j : Int) = (K : Int) := by omega
      rw [hKi]
      rw [hK] at hKb STEP
      have EK := Lib.hid hK
      have EKi := Lib.hid hKi
      clear hK hKi
      obtain ⟨ni, hni⟩ : ∃ x, items.length = x := ⟨_, rfl⟩
      obtain ⟨nq, hnq⟩ : ∃ x, qs.length = x := ⟨_, rfl⟩
      obtain ⟨nn, hnn⟩ : ∃ x, names.length = x := ⟨_, rfl⟩
      obtain ⟨nc, hnc⟩ : ∃ x, cls.length = x := ⟨_, rfl⟩
      obtain ⟨nl, hnl⟩ : ∃ x, levels.length = x := ⟨_, rfl⟩
      obtain ⟨cP, hcP⟩ : ∃ x, cntP d qs qs.length = x := ⟨_, rfl⟩
      have MI := Lib.hid (fun (W : World) (h : OwnIts W ai items Fi) => (show Calls Try.prog 38 #[.slice ai items.length ci, .int .i64 ((K : Int) + 1)] W (fun e w' => e = .returned (.int .i64 ((K : Int) + 1 + 3 * (items.length : Int))) ∧ OwnIts w' ai (markI (K + 1) items.length) Fi ∧ Touch Fi W w') from by
        have h := markIts items ai ci (K + 1) Fi W h li (by omega) (by omega)
        have e : ((K + 1 : Nat) : Int) = (K : Int) + 1 := by omega
        rw [e] at h; exact h))
      have MPs := Lib.hid (fun (W : World) (h : OwnPs W d aq qs Fq) (hl : ∀ b ∈ Fq, b < W.heap.size) => (show Calls Try.prog 39 #[.slice aq qs.length cq, .int .i64 ((K : Int) + 1 + 3 * (items.length : Int))] W (fun e w' => e = .returned (.int .i64 ((K : Int) + 1 + 3 * (items.length : Int) + (cntP d qs qs.length : Int))) ∧ OwnPs w' d aq (markPs d (K + 1 + 3 * items.length) qs) Fq ∧ Touch Fq W w') from by
        have h := MP.out qs aq cq (K + 1 + 3 * items.length) Fq W h ndP hl lq hsq (by omega) (by omega)
        have e : ((K + 1 + 3 * items.length : Nat) : Int) = (K : Int) + 1 + 3 * (items.length : Int) := by omega
        rw [e] at h; exact h))
      have MTx : ∀ (l : List ByteArray) (a : Option Addr) (c o : Nat) (x : Int) (G : List Nat), l.length ≤ 1048576 → 1 ≤ o → o + l.length ≤ 9000000 → (o : Int) = x → ∀ (W : World), OwnTxs W a l G →
          Calls Try.prog 40 #[.slice a l.length c, .int .i64 x] W fun e w' => e = .returned (.int .i64 (x + (l.length : Int))) ∧ OwnTxs w' a (markS o l.length) G ∧ Touch G W w' := by
        intro l a c o x G g1 g2 g3 g4 W h
        subst g4
        exact markTxs l a c o G W h g1 g2 g3
      have MN := Lib.hid (MTx names an cn (K + 1 + 3 * items.length + cntP d qs qs.length) ((K : Int) + 1 + 3 * (items.length : Int) + (cntP d qs qs.length : Int)) Fn ln (by omega) (by omega) (by omega))
      have MC := Lib.hid (MTx cls ac cc (K + 1 + 3 * items.length + cntP d qs qs.length + names.length) ((K : Int) + 1 + 3 * (items.length : Int) + (cntP d qs qs.length : Int) + (names.length : Int)) Fc lc (by omega) (by omega) (by omega))
      have ML := Lib.hid (MTx levels al cl (K + 1 + 3 * items.length + cntP d qs qs.length + names.length + cls.length) ((K : Int) + 1 + 3 * (items.length : Int) + (cntP d qs qs.length : Int) + (names.length : Int) + (cls.length : Int)) Fl ll (by omega) (by omega) (by omega))
      have P1 := Lib.hid O1
      have P2 := Lib.hid O2
      have P3 := Lib.hid O3
      have P4 := Lib.hid O4
      have P5 := Lib.hid O5
      have CK := Lib.hid hCp
      have NDJ := Lib.hid ndj
      have LTJ := Lib.hid ltj
      have BJ := Lib.hid bj
      have SUB := Lib.hid hsub
      have D1 := Lib.hid d1
      have D2 := Lib.hid d2
      have D3 := Lib.hid d3
      have D4 := Lib.hid d4
      have D5 := Lib.hid d5
      have M1 := Lib.hid m1
      have M2 := Lib.hid m2
      have M3 := Lib.hid m3
      have M4 := Lib.hid m4
      have M5 := Lib.hid m5
      clear hv O1 O2 O3 O4 O5 hCp ndj ltj bj hsub d1 d2 d3 d4 d5 ndP hsq MTx m0 m1 m2 m3 m4 m5 m6 m7 ed hlF
      rw [hcP] at MPs MN MC ML hKb CNT STEP
      rw [hni] at MI MPs MN MC ML CK hKb CNT STEP M1
      rw [hnq] at MPs CK M2
      rw [hnn] at MN MC ML CK hKb CNT STEP M3
      rw [hnc] at MC ML CK hKb CNT STEP M4
      rw [hnl] at ML CK hKb CNT STEP M5
      have EQ := Lib.hid hnq
      clear hni hnq hnn hnc hnl hcP li lq ln lc ll hC
      have LB := Lib.hid (LT1.out b (List.mem_cons_self ..))
      have f0 : wr.frozen? ⟨b, j * 8, none⟩ = false := freeOf HC.out
      obtain ⟨v0, o0⟩ : ∃ v0, wr.cell? ⟨b, j * 8, none⟩ = some v0 := ⟨_, cellOf HC.out (Array.getElem?_eq_getElem (by omega))⟩
      obtain ⟨W1, hW1⟩ : ∃ W, wr.setCell ⟨b, j * 8, none⟩ (.int .i64 (K : Int)) = W := ⟨_, rfl⟩
      have X1 := Lib.hid (show W1.heap[b]? = some (.cells (C.setIfInBounds (j * 8) (.int .i64 (K : Int))) 31 (0, 0)) from hW1 ▸ Joins.block_setCell HC.out _)
      have Y1 := Lib.hid (show ∀ g, g ≠ b → W1.heap[g]? = wr.heap[g]? from fun g hg => hW1 ▸ Below.heap_setCell _ _ _ _ hg)
      have S1z := Lib.hid (show W1.heap.size = wr.heap.size from hW1 ▸ (by simp))
      have TW := Lib.hid (show Touch (b :: Fs.flatten) w W1 from hW1 ▸ TT.out.set (List.mem_cons_self ..) _)
      have EW := Lib.hid hW1
      have hbz : b < W1.heap.size := by have := LB.out; rw [S1z.out]; exact this
      have N1 := Lib.hid (show ∀ i, i ≠ 0 → (C.setIfInBounds (j * 8) (.int .i64 (K : Int)))[j * 8 + i]? = C[j * 8 + i]? from fun i hi => Array.getElem?_setIfInBounds_ne (by omega))
      have bnd0 : (K : Int) + 1 + 3 * (ni : Int) + (cP : Int) + (nn : Int) + (nc : Int) + (nl : Int) + 2 ≤ 8000000 := by omega
      have eC : ((K + 1 + (3 * ni + cP + nn + nc + nl) : Nat) : Int) = (K : Int) + 1 + 3 * (ni : Int) + (cP : Int) + (nn : Int) + (nc : Int) + (nl : Int) := by omega
      have eE : ((K + 2 + (3 * ni + cP + nn + nc + nl) : Nat) : Int) = (K : Int) + 1 + 3 * (ni : Int) + (cP : Int) + (nn : Int) + (nc : Int) + (nl : Int) + 1 := by omega
      rw [eC, eE] at STEP
      clear eC eE
      have q1 := cellOf HC.out M1.out
      have LW := Lib.hid (show ∀ g ∈ Fi ++ (Fq ++ (Fn ++ (Fc ++ Fl))), g < W1.heap.size from fun g hg => by rw [S1z.out]; exact LTJ.out g hg)
      have NE := Lib.hid (show ∀ g ∈ Fi ++ (Fq ++ (Fn ++ (Fc ++ Fl))), g ≠ b from fun g hg e => BJ.out (e ▸ hg))
      have L1 := LW
      have Q1 := Lib.hid (P1.out.kept (fun g hg => Y1.out g (NE.out g (by simp [hg]))))
      have Q2 := Lib.hid (P2.out.kept (fun g hg => Y1.out g (NE.out g (by simp [hg]))))
      have Q3 := Lib.hid (P3.out.kept (fun g hg => Y1.out g (NE.out g (by simp [hg]))))
      have Q4 := Lib.hid (P4.out.kept (fun g hg => Y1.out g (NE.out g (by simp [hg]))))
      have Q5 := Lib.hid (P5.out.kept (fun g hg => Y1.out g (NE.out g (by simp [hg]))))
      have Z1 := Lib.hid hbz
      clear hbz hW1
      go_wp2_with fail
      rw [EW.out]
      clear f0 o0 q1
      with_reducible refine (MI.out _ Q1.out).mono ?_
      rintro e w2 ⟨rfl, R1, T1⟩
      have U1 := Lib.hid T1
      have S1 := Lib.hid R1
      clear T1 R1
      have X2 := Lib.hid ((U1.out.block b Z1.out (fun h => BJ.out (by simp [h]))).trans X1.out)
      have Z2 := Lib.hid (Nat.lt_of_lt_of_le Z1.out U1.out.size)
      have L2 := Lib.hid (fun g hg => Nat.lt_of_lt_of_le (L1.out g hg) U1.out.size)
      have q := cellOf X2.out ((N1.out 2 (by omega)).trans M2.out)
      go_wp2_with fail
      with_reducible refine (MPs.out _ (Q2.out.kept (fun g hg => (U1.out.block g (L1.out g (by simp [hg])) (D2.out g hg).1))) (fun g hg => L2.out g (by simp [hg]))).mono ?_
      rintro e w3 ⟨rfl, R2, T2⟩
      have U2 := Lib.hid T2
      have S2 := Lib.hid R2
      clear T2 R2 q
      have X3 := Lib.hid ((U2.out.block b Z2.out (fun h => BJ.out (by simp [h]))).trans X2.out)
      have Z3 := Lib.hid (Nat.lt_of_lt_of_le Z2.out U2.out.size)
      have L3 := Lib.hid (fun g hg => Nat.lt_of_lt_of_le (L2.out g hg) U2.out.size)
      have q := cellOf X3.out ((N1.out 3 (by omega)).trans M3.out)
      go_wp2_with fail
      with_reducible refine (MN.out _ (Q3.out.kept (fun g hg => ((U2.out.block g (L2.out g (by simp [hg])) (D3.out g hg).2.1).trans (U1.out.block g (L1.out g (by simp [hg])) (D3.out g hg).1))))).mono ?_
      rintro e w4 ⟨rfl, R3, T3⟩
      have U3 := Lib.hid T3
      have S3 := Lib.hid R3
      clear T3 R3 q
      have X4 := Lib.hid ((U3.out.block b Z3.out (fun h => BJ.out (by simp [h]))).trans X3.out)
      have Z4 := Lib.hid (Nat.lt_of_lt_of_le Z3.out U3.out.size)
      have L4 := Lib.hid (fun g hg => Nat.lt_of_lt_of_le (L3.out g hg) U3.out.size)
      have q := cellOf X4.out ((N1.out 4 (by omega)).trans M4.out)
      go_wp2_with fail
      with_reducible refine (MC.out _ (Q4.out.kept (fun g hg => ((U3.out.block g (L3.out g (by simp [hg])) (D4.out g hg).2.2.1).trans ((U2.out.block g (L2.out g (by simp [hg])) (D4.out g hg).2.1).trans (U1.out.block g (L1.out g (by simp [hg])) (D4.out g hg).1)))))).mono ?_
      rintro e w5 ⟨rfl, R4, T4⟩
      have U4 := Lib.hid T4
      have S4 := Lib.hid R4
      clear T4 R4 q
      have X5 := Lib.hid ((U4.out.block b Z4.out (fun h => BJ.out (by simp [h]))).trans X4.out)
      have Z5 := Lib.hid (Nat.lt_of_lt_of_le Z4.out U4.out.size)
      have L5 := Lib.hid (fun g hg => Nat.lt_of_lt_of_le (L4.out g hg) U4.out.size)
      have q := cellOf X5.out ((N1.out 5 (by omega)).trans M5.out)
      go_wp2_with fail
      with_reducible refine (ML.out _ (Q5.out.kept (fun g hg => ((U4.out.block g (L4.out g (by simp [hg])) (D5.out g hg).2.2.2).trans ((U3.out.block g (L3.out g (by simp [hg])) (D5.out g hg).2.2.1).trans ((U2.out.block g (L2.out g (by simp [hg])) (D5.out g hg).2.1).trans (U1.out.block g (L1.out g (by simp [hg])) (D5.out g hg).1))))))).mono ?_
      rintro e w6 ⟨rfl, R5, T5⟩
      have U5 := Lib.hid T5
      have S5 := Lib.hid R5
      clear T5 R5 q
      have X6 := Lib.hid ((U5.out.block b Z5.out (fun h => BJ.out (by simp [h]))).trans X5.out)
      have DONE := Lib.hid (five_done NDJ.out LW.out U1.out U2.out U3.out U4.out U5.out S1.out S2.out S3.out S4.out S5.out)
      have OV := Lib.hid (by
        obtain ⟨r1, r2, r3, r4, r5, _⟩ := DONE.out
        have h := ownVec_mk (k := (K : Int)) (code := (K : Int) + 1 + 3 * (ni : Int) + (cP : Int) + (nn : Int) + (nc : Int) + (nl : Int)) (env := (K : Int) + 1 + 3 * (ni : Int) + (cP : Int) + (nn : Int) + (nc : Int) + (nl : Int) + 1) (ci := ci) (cp := cq) (cn := cn) (cc := cc) (cl := cl) (by rw [markI_len, markPs_len, EQ.out, markS_len, markS_len, markS_len]; exact CK.out) r1 r2 r3 r4 r5
        rw [markI_len, markPs_len, EQ.out, markS_len, markS_len, markS_len] at h
        exact h)
      have RN := Lib.hid (STEP.out w6 (.int .i64 (K : Int)) _ _ _ _ _ _ _ ⟨M1.out, M2.out, M3.out, M4.out, M5.out⟩ (by rw [EW.out]; exact DONE.out.2.2.2.2.2) OV.out)
      have TN := Lib.hid (((TW.out.trans (DONE.out.2.2.2.2.2.mono SUB.out)).set (i := j * 8 + 6) (List.mem_cons_self ..) (.int .i64 ((K : Int) + 1 + 3 * (ni : Int) + (cP : Int) + (nn : Int) + (nc : Int) + (nl : Int)))).set (i := j * 8 + 7) (List.mem_cons_self ..) (.int .i64 ((K : Int) + 1 + 3 * (ni : Int) + (cP : Int) + (nn : Int) + (nc : Int) + (nl : Int) + 1)))
      have g6 : w6.frozen? ⟨b, j * 8 + 6, none⟩ = false := freeOf X6.out
      have g7 : w6.frozen? ⟨b, j * 8 + 7, none⟩ = false := freeOf X6.out
      obtain ⟨v6, o6⟩ : ∃ v, w6.cell? ⟨b, j * 8 + 6, none⟩ = some v := ⟨_, cellOf X6.out (Array.getElem?_eq_getElem (by simp; omega))⟩
      obtain ⟨v7, o7⟩ : ∃ v, w6.cell? ⟨b, j * 8 + 7, none⟩ = some v := ⟨_, cellOf X6.out (Array.getElem?_eq_getElem (by simp; omega))⟩
      have bnd1 : (0 : Int) ≤ (K : Int) + 1 + 3 * (ni : Int) + (cP : Int) + (nn : Int) + (nc : Int) + (nl : Int) := by omega
      go_wp2
      go_roundw
      case rel => exact ⟨j + 1, by omega, by go_num, int_eqK (by have := CNT.out; have := EK.out; omega), RN.out, TN.out⟩
      case measure => simp [intOf]; omega
    · obtain rfl : j = np := by omega
      have R := Lib.hid hr
      have TT := Lib.hid ht
      clear hr ht
      go_wp2
      go_ret
      exact ⟨rfl, OWN.out _ R.out, TT.out⟩
theorem mpZero : MPOk 0 := by
  refine ⟨fun parts ap cp k Fp w h nd lt lp hsp h1 hk => ?_⟩
  rcases h with ⟨rfl, rfl⟩ | ⟨b, C0, Fs, rfl, hl, rfl, hb, hc, hp⟩
  · refine (mkNone ap cp k w).mono ?_
    rintro e w' ⟨rfl, rfl⟩
    exact ⟨by simp [cntP, sumN], .inl ⟨rfl, rfl⟩, Touch.refl _ _⟩
  · rcases Nat.eq_zero_or_pos parts.length with e | e
    · obtain rfl : parts = [] := List.length_eq_zero_iff.1 e
      refine (mkNone _ cp k w).mono ?_
      rintro e w' ⟨rfl, rfl⟩
      exact ⟨by simp [cntP, sumN], .inr ⟨b, C0, Fs, rfl, hl, rfl, hb, hc, fun i hi => absurd hi (Nat.not_lt_zero _)⟩, Touch.refl _ _⟩
    · obtain ⟨val, hv, _⟩ := hp 0 e
      exact hv.elim
theorem mpAll : ∀ d, MPOk d
  | 0 => mpZero
  | d + 1 => mpStep d (mpAll d)
theorem markVec (d : Nat) (v : Vec) (y : Value) (k : Nat) (F : List Nat) (w : World) (hv : OwnVec w d v y F) (nd : F.Nodup) (lt : ∀ b ∈ F, b < w.heap.size) (hsm : Small d v) (h1 : 1 ≤ k) (hk : k + cntM d v ≤ 8000000) :
    Calls Try.prog 11 #[y, .int .i64 k] w fun e w' => e = .returned (.int .i64 ((k + cntM d v : Nat) : Int)) ∧ OwnVec w' d (markV d k v) y F ∧ Touch F w w' := by
  cases d with
  | zero => exact hv.elim
  | succ d => exact markVec_of d (mpAll d) v y k F w hv nd lt hsm h1 hk
end Go.Proofs.Yteoalkjngkcheaa
