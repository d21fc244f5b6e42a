/- The laws' own marks in whole vectors: read again. -/
import Derived.Test.YteoalkjngkcheaaRows
import Derived.Test.YteoalkjngkcheaaVecMk4
import Derived.WalkKit
import Derived.Lib.Hide
namespace Go.Proofs.Yteoalkjngkcheaa
set_option maxRecDepth 100000
open Go.RowKit
set_option linter.unusedVariables false

/-- The contract of heldVectorS at depth d. -/
structure HPOk (d : Nat) : Prop where
  out : ∀ (parts : List Vec) (ap : Option Addr) (cp k lo hi : Nat) (w : World), VecsAt lo hi w d ap (markPs d k parts) → hi ≤ w.heap.size → parts.length ≤ 1048576 → (∀ i, i < parts.length → Small d (parts.getD i noV)) → 1 ≤ k → k + cntP d parts parts.length ≤ 8000000 →
    Calls Try.prog 42 #[.slice ap parts.length cp, .int .i64 k] w fun e w' => e = .returned (.int .i64 ((k : Int) + (cntP d parts parts.length : Int))) ∧ Below w.heap.size w w'
set_option maxHeartbeats 1000000 in
theorem hdNone (ap : Option Addr) (cp k : Nat) (w : World) :
    Calls Try.prog 42 #[.slice ap 0 cp, .int .i64 k] w fun e w' => e = .returned (.int .i64 k) ∧ w = w' := by
  go_enter Try.func42, Try.ntmps42
  go_wp2
  go_loopw [1, 5] (fun kv iv wr => kv = .int .i64 k ∧ iv = .int .i64 0 ∧ wr = w) (fun _ _ _ => 0)
  case atStart => exact ⟨rfl, rfl, rfl⟩
  case round =>
    obtain ⟨rfl, rfl, rfl⟩ := hrel
    go_wp2
    go_ret
    exact ⟨rfl, rfl⟩
theorem hpZero : HPOk 0 := by
  refine ⟨fun parts ap cp k lo hi w h hhi lp hsp h1 hk => ?_⟩
  rcases Nat.eq_zero_or_pos parts.length with e | e
  · obtain rfl : parts = [] := List.length_eq_zero_iff.1 e
    refine (hdNone ap cp k w).mono ?_
    rintro e w' ⟨rfl, rfl⟩
    exact ⟨by simp [cntP, sumN], Below.refl _ _⟩
  · obtain ⟨b, off, c0, c1, c2, c3, c4, c5, c6, c7, _, _, hv, _⟩ := h.at_ (k := 0) (by rw [markPs_len]; exact e)
    exact hv.elim
set_option maxHeartbeats 4000000 in
theorem heldVec_of (d : Nat) (HP : HPOk d) (v : Vec) (y : Value) (k lo hi : Nat) (w : World) (hv : VecAt lo hi w (d + 1) (markV (d + 1) k v) y) (hhi : hi ≤ w.heap.size) (hsm : Small (d + 1) v) (h1 : 1 ≤ k) (hk : k + cntM (d + 1) v ≤ 8000000) :
    Calls Try.prog 12 #[y, .int .i64 k] w fun e w' => e = .returned (.int .i64 ((k + cntM (d + 1) v : Nat) : Int)) ∧ Below w.heap.size w w' := by
  obtain ⟨kk, items, qs, names, cls, levels, code, env⟩ := v
  rw [markV_eq] at hv
  obtain ⟨d', ai, ci, aq, cq, an, cn, ac, cc, al, cl, ed, rfl, hI, hN, hC, hL, hP⟩ := vecAt_open hv
  obtain rfl : d = d' := by omega
  have hsq : ∀ i, i < qs.length → Small d (qs.getD i noV) := fun i hi => Small.part hsm hi
  obtain ⟨li, lq, ln, lc, ll, _⟩ := hsm
  rw [cntM_eq] at hk ⊢
  rw [markI_len, markPs_len, markS_len, markS_len, markS_len]
  have HIt := Lib.hid (fun (W : World) (hb : Below w.heap.size w W) => (show Calls Try.prog 41 #[.slice ai items.length ci, .int .i64 ((k : Int))] W (fun e w' => e = .returned (.int .i64 ((k : Int) + 3 * (items.length : Int))) ∧ Below W.heap.size W w') from by
    have h := heldIts items.length ai ci (k) lo hi W (hI.below hb hhi) (Nat.le_trans hhi hb.size) li (by omega) (by omega)
    have e : ((k : Nat) : Int) = (k : Int) := by omega
    rw [e] at h; exact h))
  have HPs := Lib.hid (fun (W : World) (hb : Below w.heap.size w W) => (show Calls Try.prog 42 #[.slice aq qs.length cq, .int .i64 ((k : Int) + 3 * (items.length : Int))] W (fun e w' => e = .returned (.int .i64 ((k : Int) + 3 * (items.length : Int) + (cntP d qs qs.length : Int))) ∧ Below W.heap.size W w') from by
    have h := HP.out qs aq cq (k + 3 * items.length) lo hi W (hP.below hb hhi) (Nat.le_trans hhi hb.size) lq hsq (by omega) (by omega)
    have e : ((k + 3 * items.length : Nat) : Int) = (k : Int) + 3 * (items.length : Int) := by omega
    rw [e] at h; exact h))
  have HTx : ∀ (n : Nat) (a : Option Addr) (c o : Nat) (x : Int), n ≤ 1048576 → 1 ≤ o → o + n ≤ 9000000 → (o : Int) = x → TextsAt lo hi w a (markS o n) → ∀ (W : World), Below w.heap.size w W →
      Calls Try.prog 43 #[.slice a n c, .int .i64 x] W fun e w' => e = .returned (.int .i64 (x + (n : Int))) ∧ Below W.heap.size W w' := by
    intro n a c o x g1 g2 g3 g4 g5 W hb
    subst g4
    exact heldTxs n a c o lo hi W (g5.below hb hhi) (Nat.le_trans hhi hb.size) g1 g2 g3
  have HN := Lib.hid (HTx names.length an cn (k + 3 * items.length + cntP d qs qs.length) ((k : Int) + 3 * (items.length : Int) + (cntP d qs qs.length : Int)) ln (by omega) (by omega) (by omega) hN)
  have HC := Lib.hid (HTx cls.length ac cc (k + 3 * items.length + cntP d qs qs.length + names.length) ((k : Int) + 3 * (items.length : Int) + (cntP d qs qs.length : Int) + (names.length : Int)) lc (by omega) (by omega) (by omega) hC)
  have HL := Lib.hid (HTx levels.length al cl (k + 3 * items.length + cntP d qs qs.length + names.length + cls.length) ((k : Int) + 3 * (items.length : Int) + (cntP d qs qs.length : Int) + (names.length : Int) + (cls.length : Int)) ll (by omega) (by omega) (by omega) hL)
  obtain ⟨ni, hni⟩ : ∃ x, items.length = x := ⟨_, rfl⟩
  obtain ⟨nq, hnq⟩ : ∃ x, qs.length = x := ⟨_, rfl⟩
  obtain ⟨nn, hnn⟩ : ∃ x, names.length = x := ⟨_, rfl⟩
  obtain ⟨nc, hnc⟩ : ∃ x, cls.length = x := ⟨_, rfl⟩
  obtain ⟨nl, hnl⟩ : ∃ x, levels.length = x := ⟨_, rfl⟩
  obtain ⟨cP, hcP⟩ : ∃ x, cntP d qs qs.length = x := ⟨_, rfl⟩
  rw [hcP] at HPs HN HC HL hk ⊢
  rw [hni] at HIt HPs HN HC HL hk ⊢
  rw [hnq] at HPs ⊢
  rw [hnn] at HN HC HL hk ⊢
  rw [hnc] at HC HL hk ⊢
  rw [hnl] at HL hk ⊢
  clear hv hI hN hC hL hP hsq HTx HP hni hnq hnn hnc hnl hcP li lq ln lc ll ed
  go_enter Try.func12, Try.ntmps12
  go_wp2_with fail
  have B0 := Lib.hid (below1 w (.cells #[.int .i64 kk, .slice ai ni ci, .slice aq nq cq, .slice an nn cn, .slice ac nc cc, .slice al nl cl, .int .i64 code, .int .i64 env] 31))
  have K0 := Lib.hid (blk_new w (.cells #[.int .i64 kk, .slice ai ni ci, .slice aq nq cq, .slice an nn cn, .slice ac nc cc, .slice al nl cl, .int .i64 code, .int .i64 env] 31) rfl)
  with_reducible refine (HIt.out _ B0.out).mono ?_
  rintro e w1 ⟨rfl, b⟩
  have B1 := Lib.hid (below_then B0.out b)
  have K1 := Lib.hid (blk_below b K0.out)
  clear b
  obtain ⟨k0, k1, k2, k3, k4, k5, k6, k7⟩ := vec8 K1.out
  go_wp2_with fail
  with_reducible refine (HPs.out _ B1.out).mono ?_
  rintro e w2 ⟨rfl, b⟩
  have B2 := Lib.hid (below_then B1.out b)
  have K2 := Lib.hid (blk_below b K1.out)
  clear b k0 k1 k2 k3 k4 k5 k6 k7
  obtain ⟨k0, k1, k2, k3, k4, k5, k6, k7⟩ := vec8 K2.out
  go_wp2_with fail
  with_reducible refine (HN.out _ B2.out).mono ?_
  rintro e w3 ⟨rfl, b⟩
  have B3 := Lib.hid (below_then B2.out b)
  have K3 := Lib.hid (blk_below b K2.out)
  clear b k0 k1 k2 k3 k4 k5 k6 k7
  obtain ⟨k0, k1, k2, k3, k4, k5, k6, k7⟩ := vec8 K3.out
  go_wp2_with fail
  with_reducible refine (HC.out _ B3.out).mono ?_
  rintro e w4 ⟨rfl, b⟩
  have B4 := Lib.hid (below_then B3.out b)
  have K4 := Lib.hid (blk_below b K3.out)
  clear b k0 k1 k2 k3 k4 k5 k6 k7
  obtain ⟨k0, k1, k2, k3, k4, k5, k6, k7⟩ := vec8 K4.out
  go_wp2_with fail
  with_reducible refine (HL.out _ B4.out).mono ?_
  rintro e w5 ⟨rfl, b⟩
  have B5 := Lib.hid (below_then B4.out b)
  have K5 := Lib.hid (blk_below b K4.out)
  clear b k0 k1 k2 k3 k4 k5 k6 k7
  have p0 : (0 : Int) ≤ (k : Int) + 3 * (ni : Int) := by omega
  go_wp2
  go_ret
  exact ⟨ret_i64S (by omega), B5.out⟩
set_option maxHeartbeats 8000000 in
theorem hpStep (d : Nat) (HP : HPOk d) : HPOk (d + 1) := by
  refine ⟨fun parts ap cp k lo hi w hs hhi lp hsp h1 hk => ?_⟩
  have A := Lib.hid (fun (j : Nat) (w1 : World) (hj : j < parts.length) (hb : Below w.heap.size w w1) => (by
    have h := (hs.below hb hhi).at_ (k := j) (by rw [markPs_len]; exact hj)
    rw [markPs_at hj] at h
    exact h : ∃ b off c0 c1 c2 c3 c4 c5 c6 c7, ap = some ⟨b, off, none⟩ ∧ b < hi ∧ VecAt lo hi w1 (d + 1) (markP (d + 1) k parts j) (.agg #[c0, c1, c2, c3, c4, c5, c6, c7]) ∧
      w1.cell? ⟨b, off + j * 8, none⟩ = some c0 ∧ w1.cell? ⟨b, off + j * 8 + 1, none⟩ = some c1 ∧ w1.cell? ⟨b, off + j * 8 + 2, none⟩ = some c2 ∧ w1.cell? ⟨b, off + j * 8 + 3, none⟩ = some c3 ∧ w1.cell? ⟨b, off + j * 8 + 4, none⟩ = some c4 ∧ w1.cell? ⟨b, off + j * 8 + 5, none⟩ = some c5 ∧ w1.cell? ⟨b, off + j * 8 + 6, none⟩ = some c6 ∧ w1.cell? ⟨b, off + j * 8 + 7, none⟩ = some c7))
  have HS := Lib.hid hsp
  have HK := Lib.hid (fun (j : Nat) (hj : j < parts.length) => (by have := cntP_at (d := d + 1) (parts := parts) hj; omega : k + cntP (d + 1) parts j + (cntM (d + 1) (parts.getD j noV) + 3) ≤ 8000000))
  clear hs hsp
  obtain ⟨np, hnp⟩ : ∃ x, parts.length = x := ⟨_, rfl⟩
  rw [hnp] at A HS HK lp hk ⊢
  clear hnp
  go_enter Try.func42, Try.ntmps42
  go_wp2
  go_loopw [1, 5] (fun kv iv wr => ∃ j : Nat, j ≤ np ∧ iv = .int .i64 j ∧ kv = .int .i64 ((k : Int) + (cntP (d + 1) parts j : Int)) ∧ Below w.heap.size w wr) (fun _ iv _ => np - (intOf iv).toNat)
  case atStart => exact ⟨0, Nat.zero_le _, rfl, int_eqK (by simp [cntP, sumN]), Below.refl _ _⟩
  case round =>
    obtain ⟨j, hj, rfl, rfl, hb⟩ := hrel
    by_cases hlt : j < np
    · have hKb := HK.out j hlt
      have hsm := HS.out j hlt
      obtain ⟨b, off, c0, c1, c2, c3, c4, c5, c6, c7, rfl, hbB, hv, m0, m1, m2, m3, m4, m5, m6, m7⟩ := A.out j wr hlt hb
      have CNT := Lib.hid (cntP_succ (d := d + 1) (parts := parts) (j := j))
      obtain ⟨V, hV⟩ : ∃ V, parts.getD j noV = V := ⟨_, rfl⟩
      have hP0 : markP (d + 1) k parts j = setP (k + cntP (d + 1) parts j) (cntM (d + 1) V) (markV (d + 1) (k + cntP (d + 1) parts j + 1) V) := by unfold markP; rw [hV]
      rw [hP0] at hv
      rw [hV] at hsm hKb CNT
      clear hP0 hV
      obtain ⟨kk, items, qs, names, cls, levels, code, env⟩ := V
      rw [markV_eq, setP_mk] at hv
      rw [cntM_eq] at hKb CNT hv
      obtain ⟨d', ai, ci, aq, cq, an, cn, ac, cc, al, cl, ed, heq, hI, hN, hC, hL, hP⟩ := vecAt_open hv
      obtain rfl : d = d' := by omega
      simp only [Value.agg.injEq, Array.mk.injEq, List.cons.injEq, and_true] at heq
      obtain ⟨rfl, rfl, rfl, rfl, rfl, rfl, rfl, rfl⟩ := heq
      rw [markI_len] at m1
      rw [markPs_len] at m2
      rw [markS_len] at m3 m4 m5
      have hsq : ∀ i, i < qs.length → Small d (qs.getD i noV) := fun i hi => Small.part hsm hi
      obtain ⟨li, lq, ln, lc, ll, _⟩ := hsm
      obtain ⟨K, hK⟩ : ∃ K, k + cntP (d + 1) parts j = K := ⟨_, rfl⟩
      have hKi : (k : Int) + (cntP (d + 1) parts j : Int) = (K : Int) := by omega
      rw [hKi]
      rw [hK] at hKb m0 m6 m7 hI hN hC hL hP
      have EK := Lib.hid hK
      clear hK hKi
      obtain ⟨w0, hw0⟩ : ∃ w0, w0 = w := ⟨_, rfl⟩
      have hh0 := hhi
      have hhr : hi ≤ wr.heap.size := Nat.le_trans hhi hb.size
      have BB := Lib.hid hb
      clear hb hw0
      have HIt := Lib.hid (fun (W : World) (hb : Below wr.heap.size wr W) => (show Calls Try.prog 41 #[.slice ai items.length ci, .int .i64 ((K : Int) + 1)] W (fun e w' => e = .returned (.int .i64 ((K : Int) + 1 + 3 * (items.length : Int))) ∧ Below W.heap.size W w') from by
        have h := heldIts items.length ai ci (K + 1) lo hi W (hI.below hb hhr) (Nat.le_trans hhr hb.size) li (by omega) (by omega)
        have e : ((K + 1 : Nat) : Int) = (K : Int) + 1 := by omega
        rw [e] at h; exact h))
      have HPs := Lib.hid (fun (W : World) (hb : Below wr.heap.size wr W) => (show Calls Try.prog 42 #[.slice aq qs.length cq, .int .i64 ((K : Int) + 1 + 3 * (items.length : Int))] W (fun e w' => e = .returned (.int .i64 ((K : Int) + 1 + 3 * (items.length : Int) + (cntP d qs qs.length : Int))) ∧ Below W.heap.size W w') from by
        have h := HP.out qs aq cq (K + 1 + 3 * items.length) lo hi W (hP.below hb hhr) (Nat.le_trans hhr hb.size) lq hsq (by omega) (by omega)
        have e : ((K + 1 + 3 * items.length : Nat) : Int) = (K : Int) + 1 + 3 * (items.length : Int) := by omega
        rw [e] at h; exact h))
      have HTx : ∀ (n : Nat) (a : Option Addr) (c o : Nat) (x : Int), n ≤ 1048576 → 1 ≤ o → o + n ≤ 9000000 → (o : Int) = x → TextsAt lo hi wr a (markS o n) → ∀ (W : World), Below wr.heap.size wr W →
          Calls Try.prog 43 #[.slice a n c, .int .i64 x] W fun e w' => e = .returned (.int .i64 (x + (n : Int))) ∧ Below W.heap.size W w' := by
        intro n a c o x g1 g2 g3 g4 g5 W hb
        subst g4
        exact heldTxs n a c o lo hi W (g5.below hb hhr) (Nat.le_trans hhr hb.size) g1 g2 g3
      have HN := Lib.hid (HTx names.length an cn (K + 1 + 3 * items.length + cntP d qs qs.length) ((K : Int) + 1 + 3 * (items.length : Int) + (cntP d qs qs.length : Int)) ln (by omega) (by omega) (by omega) hN)
      have HC := Lib.hid (HTx cls.length ac cc (K + 1 + 3 * items.length + cntP d qs qs.length + names.length) ((K : Int) + 1 + 3 * (items.length : Int) + (cntP d qs qs.length : Int) + (names.length : Int)) lc (by omega) (by omega) (by omega) hC)
      have HL := Lib.hid (HTx levels.length al cl (K + 1 + 3 * items.length + cntP d qs qs.length + names.length + cls.length) ((K : Int) + 1 + 3 * (items.length : Int) + (cntP d qs qs.length : Int) + (names.length : Int) + (cls.length : Int)) ll (by omega) (by omega) (by omega) hL)
      obtain ⟨ni, hni⟩ : ∃ x, items.length = x := ⟨_, rfl⟩
      obtain ⟨nq, hnq⟩ : ∃ x, qs.length = x := ⟨_, rfl⟩
      obtain ⟨nn, hnn⟩ : ∃ x, names.length = x := ⟨_, rfl⟩
      obtain ⟨nc, hnc⟩ : ∃ x, cls.length = x := ⟨_, rfl⟩
      obtain ⟨nl, hnl⟩ : ∃ x, levels.length = x := ⟨_, rfl⟩
      obtain ⟨cP, hcP⟩ : ∃ x, cntP d qs qs.length = x := ⟨_, rfl⟩
      rw [hcP] at HPs HN HC HL hKb CNT m6 m7
      rw [hni] at HIt HPs HN HC HL hKb CNT m1 m6 m7
      rw [hnq] at HPs m2
      rw [hnn] at HN HC HL hKb CNT m3 m6 m7
      rw [hnc] at HC HL hKb CNT m4 m6 m7
      rw [hnl] at HL hKb CNT m5 m6 m7
      have eC : ((K + 1 + (3 * ni + cP + nn + nc + nl) : Nat) : Int) = (K : Int) + 1 + 3 * (ni : Int) + (cP : Int) + (nn : Int) + (nc : Int) + (nl : Int) := by omega
      have eE : ((K + 2 + (3 * ni + cP + nn + nc + nl) : Nat) : Int) = (K : Int) + 1 + 3 * (ni : Int) + (cP : Int) + (nn : Int) + (nc : Int) + (nl : Int) + 1 := by omega
      rw [eC] at m6
      rw [eE] at m7
      clear hv hI hN hC hL hP hsq HTx hni hnq hnn hnc hnl hcP li lq ln lc ll ed eC eE hh0
      obtain ⟨x1, h1x⟩ : ∃ x : Int, (K : Int) + 1 + 3 * (ni : Int) = x := ⟨_, rfl⟩
      rw [h1x] at HIt HPs HN HC HL m6 m7
      obtain ⟨x2, h2x⟩ : ∃ x : Int, x1 + (cP : Int) = x := ⟨_, rfl⟩
      rw [h2x] at HPs HN HC HL m6 m7
      obtain ⟨x3, h3x⟩ : ∃ x : Int, x2 + (nn : Int) = x := ⟨_, rfl⟩
      rw [h3x] at HN HC HL m6 m7
      obtain ⟨x4, h4x⟩ : ∃ x : Int, x3 + (nc : Int) = x := ⟨_, rfl⟩
      rw [h4x] at HC HL m6 m7
      obtain ⟨x5, h5x⟩ : ∃ x : Int, x4 + (nl : Int) = x := ⟨_, rfl⟩
      rw [h5x] at HL m6 m7
      have g1 : 0 ≤ x1 := by omega
      have g2 : 0 ≤ x2 := by omega
      have g3 : 0 ≤ x3 := by omega
      have g4 : 0 ≤ x4 := by omega
      have g5 : 0 ≤ x5 := by omega
      have P1 := Lib.hid (show x5 + 2 ≤ 8000000 by omega)
      have EX := Lib.hid (show x5 = (K : Int) + 1 + 3 * (ni : Int) + (cP : Int) + (nn : Int) + (nc : Int) + (nl : Int) by omega)
      clear h1x h2x h3x h4x h5x
      have M := Lib.hid (fun (W : World) (h : Below wr.heap.size wr W) => (⟨bcl h m0, bcl h m1, bcl h m2, bcl h m3, bcl h m4, bcl h m5, bcl h m6, bcl h m7⟩ : W.cell? ⟨b, off + j * 8, none⟩ = some (.int .i64 (K : Int)) ∧ W.cell? ⟨b, off + j * 8 + 1, none⟩ = some (.slice ai ni ci) ∧ W.cell? ⟨b, off + j * 8 + 2, none⟩ = some (.slice aq nq cq) ∧ W.cell? ⟨b, off + j * 8 + 3, none⟩ = some (.slice an nn cn) ∧ W.cell? ⟨b, off + j * 8 + 4, none⟩ = some (.slice ac nc cc) ∧ W.cell? ⟨b, off + j * 8 + 5, none⟩ = some (.slice al nl cl) ∧ W.cell? ⟨b, off + j * 8 + 6, none⟩ = some (.int .i64 x5) ∧ W.cell? ⟨b, off + j * 8 + 7, none⟩ = some (.int .i64 (x5 + 1))))
      have hlt' : (j : Int) < (np : Int) := by omega
      have B0 := Lib.hid (Below.refl wr.heap.size wr)
      go_wp2_with fail
      with_reducible refine (HIt.out _ B0.out).mono ?_
      rintro e w1 ⟨rfl, b1⟩
      have B1 := Lib.hid (below_then B0.out b1)
      clear b1 m0 m1 m2 m3 m4 m5 m6 m7
      obtain ⟨m0, m1, m2, m3, m4, m5, m6, m7⟩ := M.out _ B1.out
      go_wp2_with fail
      with_reducible refine (HPs.out _ B1.out).mono ?_
      rintro e w2 ⟨rfl, b2⟩
      have B2 := Lib.hid (below_then B1.out b2)
      clear b2 m0 m1 m2 m3 m4 m5 m6 m7
      obtain ⟨m0, m1, m2, m3, m4, m5, m6, m7⟩ := M.out _ B2.out
      go_wp2_with fail
      with_reducible refine (HN.out _ B2.out).mono ?_
      rintro e w3 ⟨rfl, b3⟩
      have B3 := Lib.hid (below_then B2.out b3)
      clear b3 m0 m1 m2 m3 m4 m5 m6 m7
      obtain ⟨m0, m1, m2, m3, m4, m5, m6, m7⟩ := M.out _ B3.out
      go_wp2_with fail
      with_reducible refine (HC.out _ B3.out).mono ?_
      rintro e w4 ⟨rfl, b4⟩
      have B4 := Lib.hid (below_then B3.out b4)
      clear b4 m0 m1 m2 m3 m4 m5 m6 m7
      obtain ⟨m0, m1, m2, m3, m4, m5, m6, m7⟩ := M.out _ B4.out
      go_wp2_with fail
      with_reducible refine (HL.out _ B4.out).mono ?_
      rintro e w5 ⟨rfl, b5⟩
      have B5 := Lib.hid (below_then B4.out b5)
      clear b5 m0 m1 m2 m3 m4 m5 m6 m7
      obtain ⟨m0, m1, m2, m3, m4, m5, m6, m7⟩ := M.out _ B5.out
      have BN := Lib.hid (below_then BB.out B5.out)
      have p1 := P1.out
      go_wp2
      go_roundw
      case rel => exact ⟨j + 1, by omega, by go_num, int_eqK (by have := CNT.out; have := EK.out; have := EX.out; omega), BN.out⟩
      case measure => simp [intOf]; omega
    · obtain rfl : j = np := by omega
      have BB := Lib.hid hb
      clear hb
      go_wp2
      go_ret
      exact ⟨rfl, BB.out⟩
theorem hpAll : ∀ d, HPOk d
  | 0 => hpZero
  | d + 1 => hpStep d (hpAll d)
theorem heldVec (d : Nat) (v : Vec) (y : Value) (k lo hi : Nat) (w : World) (hv : VecAt lo hi w d (markV d k v) y) (hhi : hi ≤ w.heap.size) (hsm : Small d v) (h1 : 1 ≤ k) (hk : k + cntM d v ≤ 8000000) :
    Calls Try.prog 12 #[y, .int .i64 k] w fun e w' => e = .returned (.int .i64 ((k + cntM d v : Nat) : Int)) ∧ Below w.heap.size w w' := by
  cases d with
  | zero => exact hsm.elim
  | succ d => exact heldVec_of d (hpAll d) v y k lo hi w hv hhi hsm h1 hk
end Go.Proofs.Yteoalkjngkcheaa
