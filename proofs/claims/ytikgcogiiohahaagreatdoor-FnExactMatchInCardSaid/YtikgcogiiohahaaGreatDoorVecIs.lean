/- Which vectors the reference calls valid, and how many cells they have. -/
import Derived.Test.YtikgcogiiohahaaGreatDoorRows
import Derived.Test.YtikgcogiiohahaaGreatDoorVecIt
import Derived.WalkKit
import Derived.Lib.Hide
namespace Go.Proofs.YtikgcogiiohahaaGreatDoor
open Go.RowKit
set_option maxRecDepth 100000
set_option linter.unusedVariables false

theorem isV_iff {n : Nat} {v : Vec} : IsV n v ↔ FlatV v ∧ ∀ i, i < (partsV v).length → n ≠ 0 ∧ IsV (n - 1) ((partsV v).getD i noV) := by
  cases n with
  | zero =>
    constructor
    · rintro ⟨h, h0⟩; exact ⟨h, fun i hi => by omega⟩
    · rintro ⟨h, h0⟩; exact ⟨h, by
        rcases Nat.eq_zero_or_pos (partsV v).length with e | e
        · exact e
        · exact absurd rfl (h0 0 e).1⟩
  | succ n =>
    constructor
    · rintro ⟨h, h0⟩; exact ⟨h, fun i hi => ⟨by omega, h0 i hi⟩⟩
    · rintro ⟨h, h0⟩; exact ⟨h, fun i hi => (h0 i hi).2⟩
structure SIsOk (n : Nat) : Prop where
  out : ∀ (d : Nat) (v : Vec) (val : Value) (lo hi : Nat) (w : World), VecAt lo hi w d v val → hi ≤ w.heap.size → Small d v →
    Calls Tryz.prog 49 #[val, .int .i64 n] w fun e w' => e = .returned (.bool (bB (IsV n v))) ∧ Below w.heap.size w w'
set_option maxHeartbeats 20000000 in
theorem sIsStep (n : Nat) (hn3 : n ≤ 3) (IH : ∀ m, n = m + 1 → SIsOk m) : SIsOk n := by
  refine ⟨fun d v val lo hi w hv hhi hsm => ?_⟩
  obtain ⟨kk, items, parts, names, cls, levels, code, env⟩ := v
  obtain ⟨d', ai, ci, ap, cp, an, cn, ac, cc, al, cl, rfl, rfl, hI, hN, hC, hL, hP, _⟩ := vecAt_openC hv
  have hsp : ∀ i, i < parts.length → Small d' (parts.getD i noV) := fun i hi => hsm.part hi
  obtain ⟨li, lp, ln, lc, ll, bi, bn, bc, bl, _⟩ := hsm
  have CLn := Lib.hid (fun (w1 : World) => specLen kk ai ap an ac al items.length ci parts.length cp names.length cn cls.length cc levels.length cl code env w1 li lp)
  have sz : ∀ (l : List ByteArray), (∀ s ∈ l, s.size ≤ 1048576) → ∀ i, i < l.length → (txtS l i).size ≤ 9223372036854775807 := by
    intro l h i hi
    unfold txtS
    rw [List.getD_eq_getElem?_getD, List.getElem?_eq_getElem hi]
    exact Nat.le_trans (h _ (List.getElem_mem hi)) (by omega)
  have hit : ∀ i, i < items.length → (items.getD i noI).t.size ≤ 1048576 := by
    intro i hi
    rw [List.getD_eq_getElem?_getD, List.getElem?_eq_getElem hi]
    exact bi _ (List.getElem_mem hi)
  have CNm := Lib.hid (fun (w1 : World) (hb : Below w.heap.size w w1) => specNamed an names.length cn (txtS names) hi w1 (hN.below hb hhi).strs (by omega) (sz names bn))
  have CCl := Lib.hid (fun (w1 : World) (hb : Below w.heap.size w w1) => (specLabels ac cls.length cc 3 (txtS cls) hi w1 (hC.below hb hhi).strs (by omega) (by omega) (sz cls bc) : Calls Tryz.prog 64 #[.slice ac cls.length cc, .int .i64 3] w1 _))
  have CLv := Lib.hid (fun (w1 : World) (hb : Below w.heap.size w w1) => (specLabels al levels.length cl 20 (txtS levels) hi w1 (hL.below hb hhi).strs (by omega) (by omega) (sz levels bl) : Calls Tryz.prog 64 #[.slice al levels.length cl, .int .i64 20] w1 _))
  have AI := Lib.hid (fun (k : Nat) (w1 : World) (hk : k < items.length) (hb : Below w.heap.size w w1) => (hI.below hb hhi).at_ hk)
  have AP := Lib.hid (fun (k : Nat) (w1 : World) (hk : k < parts.length) (hb : Below w.heap.size w w1) => (hP.below hb hhi).at_ hk)
  have CIt := Lib.hid (fun (i : Nat) (w1 : World) (hi : i < items.length) => (specItem kk (items.getD i noI) w1 (hit i hi) : Calls Tryz.prog 65 #[.int .i64 kk, .agg #[.int .i64 (items.getD i noI).n, .int .i64 (items.getD i noI).d, .string (txtI items i)]] w1 _))
  have CIs := Lib.hid (fun (h0 : n ≠ 0) (i : Nat) (w1 : World) (val : Value) (hi' : i < parts.length) (hb : Below w.heap.size w w1) (hv : VecAt lo hi w1 d' (parts.getD i noV) val) => (by
    obtain ⟨m, rfl⟩ : ∃ m, n = m + 1 := ⟨n - 1, by omega⟩
    have e : (((m + 1 : Nat) : Int) - 1) = (m : Int) := by omega
    rw [e]
    exact (IH m rfl).out d' _ val lo hi w1 hv (Nat.le_trans hhi hb.size) (hsp i hi') : Calls Tryz.prog 49 #[val, .int .i64 ((n : Int) - 1)] w1 fun e w' => e = .returned (.bool (bB (IsV (n - 1) (parts.getD i noV)))) ∧ Below w1.heap.size w1 w'))
  have XV := Lib.hid (isV_iff (n := n) (v := (.mk kk items parts names cls levels code env)))
  clear hv hI hN hC hL hP sz hsp bi bn bc bl IH hit
  obtain ⟨L, hL⟩ : ∃ L, lenV kk items.length parts.length = L := ⟨_, rfl⟩
  obtain ⟨ni, hni⟩ : ∃ x, items.length = x := ⟨_, rfl⟩
  obtain ⟨np, hnp⟩ : ∃ x, parts.length = x := ⟨_, rfl⟩
  obtain ⟨nn, hnn⟩ : ∃ x, names.length = x := ⟨_, rfl⟩
  obtain ⟨nc, hnc⟩ : ∃ x, cls.length = x := ⟨_, rfl⟩
  obtain ⟨nl, hnl⟩ : ∃ x, levels.length = x := ⟨_, rfl⟩
  have EF := Lib.hid (show FlatV (.mk kk items parts names cls levels code env) ↔ FlatN kk items ni np L (txtS names) nn (txtS cls) nc (txtS levels) nl code env by
    subst hL hni hnp hnn hnc hnl
    exact flatN_iff)
  have EPa := Lib.hid (show (partsV (.mk kk items parts names cls levels code env)).length = np from hnp)
  rw [hL] at CLn
  rw [hni] at hL CLn AI li CIt
  rw [hnp] at hL CLn AP lp CIs
  rw [hnn] at CLn CNm ln
  rw [hnc] at CLn CCl lc
  rw [hnl] at CLn CLv ll
  rw [hni, hnp, hnn, hnc, hnl]
  have EL := Lib.hid hL
  have NO := Lib.hid (fun (h : ¬ FlatN kk items ni np L (txtS names) nn (txtS cls) nc (txtS levels) nl code env) => (fun h' => h (EF.out.1 (XV.out.1 h').1) : ¬ IsV n (.mk kk items parts names cls levels code env)))
  have NP := Lib.hid (fun (i : Nat) (hi : i < np) (h : n = 0 ∨ ¬ IsV (n - 1) (parts.getD i noV)) => (fun h' => by
    have := (XV.out.1 h').2 i (by rw [EPa.out]; exact hi)
    rcases h with h | h
    · exact this.1 h
    · exact h this.2 : ¬ IsV n (.mk kk items parts names cls levels code env)))
  have YES := Lib.hid (fun (h : FlatN kk items ni np L (txtS names) nn (txtS cls) nc (txtS levels) nl code env) (hp : ∀ i, i < np → n ≠ 0 ∧ IsV (n - 1) (parts.getD i noV)) => (XV.out.2 ⟨EF.out.2 h, fun i hi => hp i (by rw [EPa.out] at hi; exact hi)⟩ : IsV n (.mk kk items parts names cls levels code env)))
  clear hL hni hnp hnn hnc hnl XV EF EPa
  obtain ⟨V, hV⟩ : ∃ V, Vec.mk kk items parts names cls levels code env = V := ⟨_, rfl⟩
  rw [hV] at NO NP YES ⊢
  clear hV
  go_enter Tryz.func49, Tryz.ntmps49
  go_wp2_with fail
  refine (CLn.out _).mono ?_
  rintro e w2 ⟨rfl, b2⟩
  have B2 := Lib.hid (below_then (below1 w _) b2)
  have K2 := Lib.hid (blk_below b2 (blk_new w _ rfl))
  clear b2
  obtain ⟨k0, k1, k2, k3, k4, k5, k6, k7⟩ := vec8 K2.out
  go_wp2_with fail
  by_cases f1 : kk < 0 ∨ 5 < kk
  · have X := Lib.hid (NO.out (fun h => by have := h.h_kind; omega))
    refine (inNo kk 0 5 _ f1).mono ?_
    rintro e w' ⟨rfl, rfl⟩
    clear f1
    go_wp2
    go_ret
    exact ⟨ret_no X.out, B2.out⟩
  refine (inYes kk 0 5 _ (by omega) (by omega)).mono ?_
  rintro e w' ⟨rfl, rfl⟩
  by_cases f2 : 40 < L
  · have X := Lib.hid (NO.out (fun h => by have := h.h_len; omega))
    go_wp2
    go_ret
    exact ⟨ret_no X.out, B2.out⟩
  by_cases f3 : nn ≠ 0 ∧ nn ≠ L
  · have X := Lib.hid (NO.out (fun h => by have := h.h_names; omega))
    obtain ⟨f3, f4⟩ := f3
    go_wp2
    go_ret
    exact ⟨ret_no X.out, B2.out⟩
  have g1 := Lib.hid f1
  have g2 := Lib.hid f2
  have hk0 : 0 ≤ kk := by omega
  have hk5 : kk ≤ 5 := by omega
  have f34 : nn = 0 ∨ (¬ nn = 0 ∧ nn = L) := by omega
  have G3 := Lib.hid f34
  clear f1 f3
  rcases f34 with h | ⟨h0, h⟩
  · subst h

    go_wp2_with fail
    refine (CNm.out _ B2.out).mono ?_
    rintro e w' ⟨rfl, rfl⟩
    by_cases q1 : NamedOk (txtS names) 0
    · rw [bB_yes q1]
      have Q1 := Lib.hid q1
      clear q1
      go_wp2_with fail
      refine (CCl.out _ B2.out).mono ?_
      rintro e w' ⟨rfl, rfl⟩
      by_cases q2 : LabelsOk (txtS cls) nc 3
      · rw [bB_yes q2]
        have Q2 := Lib.hid q2
        clear q2
        go_wp2_with fail
        refine (CLv.out _ B2.out).mono ?_
        rintro e w' ⟨rfl, rfl⟩
        by_cases q3 : LabelsOk (txtS levels) nl 20
        · rw [bB_yes q3]
          have Q3 := Lib.hid q3
          clear q3
          by_cases v5 : kk = 5
          · subst v5
            by_cases u4 : 0 < nl
            · have X := Lib.hid (NO.out (fun h => by have := h.h_noLevels (by omega); omega))
              go_wp2
              go_ret
              exact ⟨ret_no X.out, B2.out⟩
            · obtain rfl : nl = 0 := by omega
              by_cases u5 : 0 < np
              · have X := Lib.hid (NO.out (fun h => by have := h.h_noParts (by omega); omega))
                go_wp2
                go_ret
                exact ⟨ret_no X.out, B2.out⟩
              · obtain rfl : np = 0 := by omega
                clear u4 u5
                by_cases u0 : ni = 0
                · subst u0
                  by_cases u2 : code < -999 ∨ 99999 < code
                  · have X := Lib.hid (NO.out (fun h => by have := h.h_func rfl; omega))
                    have CI := Lib.hid (fun w => inNo code (-999) 99999 w u2)
                    clear u2
                    go_wp2_with fail
                    refine (CI.out _).mono ?_
                    rintro e w' ⟨rfl, rfl⟩
                    go_wp2
                    go_ret
                    exact ⟨ret_no X.out, B2.out⟩
                  · by_cases u3 : env < 0 ∨ 99999 < env
                    · have X := Lib.hid (NO.out (fun h => by have := h.h_func rfl; omega))
                      have CI := Lib.hid (fun w => inYes code (-999) 99999 w (by omega) (by omega))
                      have CE := Lib.hid (fun w => inNo env 0 99999 w u3)
                      clear u2 u3
                      go_wp2_with fail
                      refine (CI.out _).mono ?_
                      rintro e w' ⟨rfl, rfl⟩
                      go_wp2_with fail
                      refine (CE.out _).mono ?_
                      rintro e w' ⟨rfl, rfl⟩
                      go_wp2
                      go_ret
                      exact ⟨ret_no X.out, B2.out⟩
                    · have X := Lib.hid (YES.out ⟨by omega, by omega, by omega, Q1.out, Q2.out, Q3.out, by omega, by omega, by omega, by omega, by omega, by omega, fun i hi => absurd hi (Nat.not_lt_zero _)⟩ (fun i hi => absurd hi (Nat.not_lt_zero _)))
                      have CI := Lib.hid (fun w => inYes code (-999) 99999 w (by omega) (by omega))
                      have CE := Lib.hid (fun w => inYes env 0 99999 w (by omega) (by omega))
                      clear u2 u3
                      go_wp2_with fail
                      refine (CI.out _).mono ?_
                      rintro e w' ⟨rfl, rfl⟩
                      go_wp2_with fail
                      refine (CE.out _).mono ?_
                      rintro e w' ⟨rfl, rfl⟩
                      go_wp2
                      go_ret
                      exact ⟨ret_yes X.out, B2.out⟩
                · have X := Lib.hid (NO.out (fun h => by have := h.h_func rfl; omega))
                  go_wp2
                  go_ret
                  exact ⟨ret_no X.out, B2.out⟩
          by_cases v0 : kk = 0
          · subst v0
            by_cases u6 : ¬ code = 0
            · have X := Lib.hid (NO.out (fun h => by have := h.h_code (by omega); omega))
              go_wp2
              go_ret
              exact ⟨ret_no X.out, B2.out⟩
            · obtain rfl : code = 0 := by omega
              by_cases u7 : ¬ env = 0
              · have X := Lib.hid (NO.out (fun h => by have := h.h_code (by omega); omega))
                go_wp2
                go_ret
                exact ⟨ret_no X.out, B2.out⟩
              · obtain rfl : env = 0 := by omega
                clear u6 u7
                by_cases u4 : 0 < nl
                · have X := Lib.hid (NO.out (fun h => by have := h.h_noLevels (by omega); omega))
                  go_wp2
                  go_ret
                  exact ⟨ret_no X.out, B2.out⟩
                · obtain rfl : nl = 0 := by omega
                  by_cases u5 : 0 < np
                  · have X := Lib.hid (NO.out (fun h => by have := h.h_noParts (by omega); omega))
                    go_wp2
                    go_ret
                    exact ⟨ret_no X.out, B2.out⟩
                  · obtain rfl : np = 0 := by omega
                    clear u4 u5
                    have hni : ni = L := by have := EL.out; rw [lenNot (by omega)] at this; omega
                    by_cases u8 : L = 0
                    · subst u8
                      by_cases u9 : nc = 0
                      · subst u9
                        have X := Lib.hid (YES.out ⟨by omega, by omega, by omega, Q1.out, Q2.out, Q3.out, by omega, by omega, by omega, by omega, by omega, by omega, fun i hi => absurd hi (by omega)⟩ (fun i hi => absurd hi (Nat.not_lt_zero _)))
                        clear hni
                        go_wp2
                        go_ret
                        exact ⟨ret_yes X.out, B2.out⟩
                      · have X := Lib.hid (NO.out (fun h => by have := h.h_null rfl; omega))
                        clear hni
                        go_wp2
                        go_ret
                        exact ⟨ret_bB (by rw [bB_no X.out] <;> (first | rfl | exact decide_eq_false (by omega) | (simp; done) | (simp; omega))), B2.out⟩
                    · have X := Lib.hid (NO.out (fun h => by have := h.h_null rfl; omega))
                      clear hni
                      go_wp2
                      go_ret
                      exact ⟨ret_bB (by rw [bB_no X.out] <;> (first | rfl | exact decide_eq_false (by omega) | (simp; done) | (simp; omega))), B2.out⟩
          by_cases u6 : ¬ code = 0
          · have X := Lib.hid (NO.out (fun h => by have := h.h_code (by omega); omega))
            go_wp2
            go_ret
            exact ⟨ret_no X.out, B2.out⟩
          · obtain rfl : code = 0 := by omega
            by_cases u7 : ¬ env = 0
            · have X := Lib.hid (NO.out (fun h => by have := h.h_code (by omega); omega))
              go_wp2
              go_ret
              exact ⟨ret_no X.out, B2.out⟩
            · obtain rfl : env = 0 := by omega
              clear u6 u7
              by_cases v2 : kk = 2
              · subst v2
                clear v5 v0
                by_cases u5 : 0 < np
                · have X := Lib.hid (NO.out (fun h => by have := h.h_noParts (by omega); omega))
                  go_wp2
                  go_ret
                  exact ⟨ret_no X.out, B2.out⟩
                · obtain rfl : np = 0 := by omega
                  clear u5

                  go_wp2_with fail
                  go_loopw [6] (fun i wr => ∃ k : Nat, k ≤ ni ∧ i = .int .i64 k ∧ (∀ j, j < k → ItOk 2 (items.getD j noI) ∧ LevOk nl (items.getD j noI)) ∧ Below w.heap.size w wr ∧ wr.heap[w.heap.size]? = w2.heap[w.heap.size]?) (fun i _ => ni - (intOf i).toNat)
                  case atStart => exact ⟨0, Nat.zero_le _, rfl, fun _ h => absurd h (Nat.not_lt_zero _), B2.out, rfl⟩
                  case round =>
                    obtain ⟨k, hk, rfl, hit, hb, hblk⟩ := hrel
                    have IT := Lib.hid hit
                    have BB := Lib.hid hb
                    have KB := Lib.hid (hblk.trans K2.out)
                    have KW := Lib.hid hblk
                    clear hit hb hblk k0 k1 k2 k3 k4 k5 k6 k7
                    obtain ⟨k0, k1, k2, k3, k4, k5, k6, k7⟩ := vec8 KB.out
                    have hz := (Array.getElem?_eq_some_iff.1 KB.out).1
                    by_cases hlt : k < ni
                    · obtain ⟨b, off, rfl, hbB, c0, c1, c2⟩ := AI.out _ _ hlt BB.out
                      obtain ⟨⟨xn, xd, xt⟩, hx⟩ : ∃ x : It, items.getD k noI = x := ⟨_, rfl⟩
                      have ht : txtI items k = xt := by unfold txtI; rw [hx]
                      rw [hx] at c0 c1
                      rw [ht] at c2
                      simp only at c0 c1
                      have C := Lib.hid (fun w1 => (by have h := CIt.out k w1 hlt; rw [hx] at h; exact h : Calls Tryz.prog 65 #[.int .i64 2, .agg #[.int .i64 xn, .int .i64 xd, .string xt]] w1 fun e w' => e = .returned (.bool (bB (ItOk 2 ⟨xn, xd, xt⟩))) ∧ Below w1.heap.size w1 w'))
                      have HX := Lib.hid hx
                      clear hx ht
                      go_wp2_with fail
                      refine (C.out _).mono ?_
                      rintro e w3 ⟨rfl, b3⟩
                      have B3 := Lib.hid (below_then (below_then BB.out (below1 wr _)) b3)
                      have K3 := Lib.hid (blk_below b3 (blk_old KB.out))
                      have X3 := Lib.hid (blk_below b3 (blk_new wr _ rfl))
                      have W3 := Lib.hid (K3.out.trans K2.out.symm)
                      clear b3 k0 k1 k2 k3 k4 k5 k6 k7
                      obtain ⟨k0, k1, k2, k3, k4, k5, k6, k7⟩ := vec8 K3.out
                      obtain ⟨⟨x0, x1, x2⟩, _⟩ := three X3.out
                      by_cases hi : ItOk 2 ⟨xn, xd, xt⟩
                      · rw [bB_yes hi]
                        have HI := Lib.hid hi
                        clear hi
                        have FIN := Lib.hid (fun (h : LevOk nl ⟨xn, xd, xt⟩) => (fun j hj => by
                          by_cases e : j = k
                          · subst e; rw [HX.out]; exact ⟨HI.out, h⟩
                          · exact IT.out j (by omega) : ∀ j, j < k + 1 → ItOk 2 (items.getD j noI) ∧ LevOk nl (items.getD j noI)))
                        by_cases n0 : nl = 0
                        · subst n0
                          have IN := Lib.hid (FIN.out (.inl rfl))
                          go_wp2
                          go_roundw
                          case rel => exact ⟨k + 1, by omega, by go_num, IN.out, B3.out, W3.out⟩
                          case measure => simp [intOf]; omega
                        · have n0' : 0 < nl := by omega
                          by_cases d0 : xd = 0
                          · subst d0
                            have IN := Lib.hid (FIN.out (.inr (.inl rfl)))
                            go_wp2
                            go_roundw
                            case rel => exact ⟨k + 1, by omega, by go_num, IN.out, B3.out, W3.out⟩
                            case measure => simp [intOf]; omega
                          · by_cases d1 : xd = 1
                            · subst d1
                              by_cases i0 : xn < 1 ∨ nl < xn
                              · have X := Lib.hid (NO.out (fun h => by have := (h.h_items k hlt).2; rw [HX.out] at this; rcases this with h | h | h <;> (try simp only at h) <;> omega))
                                have CX := Lib.hid (fun w => inNo xn 1 nl w i0)
                                clear i0
                                go_wp2_with fail
                                refine (CX.out _).mono ?_
                                rintro e w' ⟨rfl, rfl⟩
                                go_wp2
                                go_ret
                                exact ⟨ret_no X.out, B3.out⟩
                              · have IN := Lib.hid (FIN.out (.inr (.inr ⟨rfl, by simp only; omega, by simp only; omega⟩)))
                                have CX := Lib.hid (fun w => inYes xn 1 nl w (by omega) (by omega))
                                go_wp2_with fail
                                refine (CX.out _).mono ?_
                                rintro e w' ⟨rfl, rfl⟩
                                go_wp2
                                go_roundw
                                case rel => exact ⟨k + 1, by omega, by go_num, IN.out, B3.out, W3.out⟩
                                case measure => simp [intOf]; omega
                            · have X := Lib.hid (NO.out (fun h => by have := (h.h_items k hlt).2; rw [HX.out] at this; rcases this with h | h | h <;> (try simp only at h) <;> omega))
                              go_wp2
                              go_ret
                              exact ⟨ret_no X.out, B3.out⟩
                      · have X := Lib.hid (NO.out (fun h => hi (by have := (h.h_items k hlt).1; rw [HX.out] at this; exact this)))
                        rw [bB_no hi]
                        clear hi
                        go_wp2
                        go_ret
                        exact ⟨ret_no X.out, B3.out⟩
                    · obtain rfl : k = ni := by omega
                      go_wp2_with fail
                      go_loopw [8] (fun i wr => ∃ k : Nat, k ≤ 0 ∧ i = .int .i64 k ∧ (∀ j, j < k → n ≠ 0 ∧ IsV (n - 1) (parts.getD j noV)) ∧ Below w.heap.size w wr ∧ wr.heap[w.heap.size]? = w2.heap[w.heap.size]?) (fun i _ => 0 - (intOf i).toNat)
                      case atStart => exact ⟨0, Nat.zero_le _, rfl, fun _ h => absurd h (Nat.not_lt_zero _), BB.out, KW.out⟩
                      case round =>
                        clear BB KB KW k0 k1 k2 k3 k4 k5 k6 k7
                        obtain ⟨k, hk, rfl, hit, hb, hblk⟩ := hrel
                        have PT := Lib.hid hit
                        have BB := Lib.hid hb
                        have KB := Lib.hid (hblk.trans K2.out)
                        have KW := Lib.hid hblk
                        clear hit hb hblk
                        obtain ⟨k0, k1, k2, k3, k4, k5, k6, k7⟩ := vec8 KB.out
                        have hz := (Array.getElem?_eq_some_iff.1 KB.out).1
                        by_cases hlt : k < 0
                        · exact absurd hlt (Nat.not_lt_zero _)
                        · obtain rfl : k = 0 := by omega
                          have X := Lib.hid (YES.out ⟨by omega, by omega, by omega, Q1.out, Q2.out, Q3.out, by omega, by omega, by omega, by omega, by omega, by omega, fun i hi => IT.out i hi⟩ (fun i hi => PT.out i hi))
                          go_wp2
                          go_ret
                          exact ⟨ret_yes X.out, BB.out⟩
              · by_cases u4 : 0 < nl
                · have X := Lib.hid (NO.out (fun h => by have := h.h_noLevels v2; omega))
                  go_wp2
                  go_ret
                  exact ⟨ret_no X.out, B2.out⟩
                · obtain rfl : nl = 0 := by omega
                  clear u4
                  by_cases v4 : kk = 4
                  · subst v4
                    clear v5 v0 v2
                    by_cases u8 : 0 < ni
                    · have X := Lib.hid (NO.out (fun h => by have := h.h_list rfl; omega))
                      go_wp2
                      go_ret
                      exact ⟨ret_no X.out, B2.out⟩
                    · obtain rfl : ni = 0 := by omega
                      clear u8

                      go_wp2_with fail
                      go_loopw [6] (fun i wr => ∃ k : Nat, k ≤ 0 ∧ i = .int .i64 k ∧ (∀ j, j < k → ItOk 4 (items.getD j noI) ∧ LevOk 0 (items.getD j noI)) ∧ Below w.heap.size w wr ∧ wr.heap[w.heap.size]? = w2.heap[w.heap.size]?) (fun i _ => 0 - (intOf i).toNat)
                      case atStart => exact ⟨0, Nat.zero_le _, rfl, fun _ h => absurd h (Nat.not_lt_zero _), B2.out, rfl⟩
                      case round =>
                        obtain ⟨k, hk, rfl, hit, hb, hblk⟩ := hrel
                        have IT := Lib.hid hit
                        have BB := Lib.hid hb
                        have KB := Lib.hid (hblk.trans K2.out)
                        have KW := Lib.hid hblk
                        clear hit hb hblk k0 k1 k2 k3 k4 k5 k6 k7
                        obtain ⟨k0, k1, k2, k3, k4, k5, k6, k7⟩ := vec8 KB.out
                        have hz := (Array.getElem?_eq_some_iff.1 KB.out).1
                        by_cases hlt : k < 0
                        · exact absurd hlt (Nat.not_lt_zero _)
                        · obtain rfl : k = 0 := by omega
                          go_wp2_with fail
                          go_loopw [8] (fun i wr => ∃ k : Nat, k ≤ np ∧ i = .int .i64 k ∧ (∀ j, j < k → n ≠ 0 ∧ IsV (n - 1) (parts.getD j noV)) ∧ Below w.heap.size w wr ∧ wr.heap[w.heap.size]? = w2.heap[w.heap.size]?) (fun i _ => np - (intOf i).toNat)
                          case atStart => exact ⟨0, Nat.zero_le _, rfl, fun _ h => absurd h (Nat.not_lt_zero _), BB.out, KW.out⟩
                          case round =>
                            clear BB KB KW k0 k1 k2 k3 k4 k5 k6 k7
                            obtain ⟨k, hk, rfl, hit, hb, hblk⟩ := hrel
                            have PT := Lib.hid hit
                            have BB := Lib.hid hb
                            have KB := Lib.hid (hblk.trans K2.out)
                            have KW := Lib.hid hblk
                            clear hit hb hblk
                            obtain ⟨k0, k1, k2, k3, k4, k5, k6, k7⟩ := vec8 KB.out
                            have hz := (Array.getElem?_eq_some_iff.1 KB.out).1
                            by_cases hlt : k < np
                            · obtain ⟨b, off, u0, u1, u2, u3, u4, u5, u6, u7, rfl, hbB, hv, c0, c1, c2, c3, c4, c5, c6, c7⟩ := AP.out _ _ hlt BB.out
                              by_cases hn0 : n = 0
                              · have X := Lib.hid (NP.out k hlt (.inl hn0))
                                clear hv
                                subst hn0
                                go_wp2
                                go_ret
                                exact ⟨ret_no X.out, BB.out⟩
                              · have C := Lib.hid (CIs.out hn0 k wr _ hlt BB.out hv)
                                clear hv
                                have hn0' : 0 < n := by omega
                                go_wp2_with fail
                                with_reducible refine C.out.mono ?_
                                rintro e w4 ⟨rfl, b4⟩
                                have B4 := Lib.hid (below_then BB.out b4)
                                have K4 := Lib.hid ((blk_below b4 KB.out).trans K2.out.symm)
                                clear b4
                                by_cases hp : IsV (n - 1) (parts.getD k noV)
                                · rw [bB_yes hp]
                                  have HP := Lib.hid hp
                                  clear hp
                                  have PN := Lib.hid (show ∀ j, j < k + 1 → n ≠ 0 ∧ IsV (n - 1) (parts.getD j noV) from fun j hj => by
                                    by_cases e : j = k
                                    · subst e; exact ⟨hn0, HP.out⟩
                                    · exact PT.out j (by omega))
                                  go_wp2
                                  go_roundw
                                  case rel => first | exact ⟨k + 1, by omega, by go_num, PN.out, B4.out, K4.out⟩ | ((repeat apply Exists.intro); exact ⟨⟨k + 1, by omega, by go_num, PN.out, B4.out, K4.out⟩, rfl⟩)
                                  case measure => simp [intOf]; omega
                                · have X := Lib.hid (NP.out k hlt (.inr hp))
                                  rw [bB_no hp]
                                  clear hp
                                  go_wp2
                                  go_ret
                                  exact ⟨ret_no X.out, B4.out⟩
                            · obtain rfl : k = np := by omega
                              have X := Lib.hid (YES.out ⟨by omega, by omega, by omega, Q1.out, Q2.out, Q3.out, by omega, by omega, by omega, by omega, by omega, by omega, fun i hi => IT.out i hi⟩ (fun i hi => PT.out i hi))
                              go_wp2
                              go_ret
                              exact ⟨ret_yes X.out, BB.out⟩
                  · by_cases u5 : 0 < np
                    · have X := Lib.hid (NO.out (fun h => by have := h.h_noParts v4; omega))
                      go_wp2
                      go_ret
                      exact ⟨ret_no X.out, B2.out⟩
                    · obtain rfl : np = 0 := by omega
                      clear u5

                      go_wp2_with fail
                      go_loopw [6] (fun i wr => ∃ k : Nat, k ≤ ni ∧ i = .int .i64 k ∧ (∀ j, j < k → ItOk kk (items.getD j noI) ∧ LevOk 0 (items.getD j noI)) ∧ Below w.heap.size w wr ∧ wr.heap[w.heap.size]? = w2.heap[w.heap.size]?) (fun i _ => ni - (intOf i).toNat)
                      case atStart => exact ⟨0, Nat.zero_le _, rfl, fun _ h => absurd h (Nat.not_lt_zero _), B2.out, rfl⟩
                      case round =>
                        obtain ⟨k, hk, rfl, hit, hb, hblk⟩ := hrel
                        have IT := Lib.hid hit
                        have BB := Lib.hid hb
                        have KB := Lib.hid (hblk.trans K2.out)
                        have KW := Lib.hid hblk
                        clear hit hb hblk k0 k1 k2 k3 k4 k5 k6 k7
                        obtain ⟨k0, k1, k2, k3, k4, k5, k6, k7⟩ := vec8 KB.out
                        have hz := (Array.getElem?_eq_some_iff.1 KB.out).1
                        by_cases hlt : k < ni
                        · obtain ⟨b, off, rfl, hbB, c0, c1, c2⟩ := AI.out _ _ hlt BB.out
                          obtain ⟨⟨xn, xd, xt⟩, hx⟩ : ∃ x : It, items.getD k noI = x := ⟨_, rfl⟩
                          have ht : txtI items k = xt := by unfold txtI; rw [hx]
                          rw [hx] at c0 c1
                          rw [ht] at c2
                          simp only at c0 c1
                          have C := Lib.hid (fun w1 => (by have h := CIt.out k w1 hlt; rw [hx] at h; exact h : Calls Tryz.prog 65 #[.int .i64 kk, .agg #[.int .i64 xn, .int .i64 xd, .string xt]] w1 fun e w' => e = .returned (.bool (bB (ItOk kk ⟨xn, xd, xt⟩))) ∧ Below w1.heap.size w1 w'))
                          have HX := Lib.hid hx
                          clear hx ht
                          go_wp2_with fail
                          refine (C.out _).mono ?_
                          rintro e w3 ⟨rfl, b3⟩
                          have B3 := Lib.hid (below_then (below_then BB.out (below1 wr _)) b3)
                          have K3 := Lib.hid (blk_below b3 (blk_old KB.out))
                          have X3 := Lib.hid (blk_below b3 (blk_new wr _ rfl))
                          have W3 := Lib.hid (K3.out.trans K2.out.symm)
                          clear b3 k0 k1 k2 k3 k4 k5 k6 k7
                          obtain ⟨k0, k1, k2, k3, k4, k5, k6, k7⟩ := vec8 K3.out
                          obtain ⟨⟨x0, x1, x2⟩, _⟩ := three X3.out
                          by_cases hi : ItOk kk ⟨xn, xd, xt⟩
                          · rw [bB_yes hi]
                            have HI := Lib.hid hi
                            clear hi
                            have FIN := Lib.hid (fun (h : LevOk 0 ⟨xn, xd, xt⟩) => (fun j hj => by
                              by_cases e : j = k
                              · subst e; rw [HX.out]; exact ⟨HI.out, h⟩
                              · exact IT.out j (by omega) : ∀ j, j < k + 1 → ItOk kk (items.getD j noI) ∧ LevOk 0 (items.getD j noI)))
                            have IN := Lib.hid (FIN.out (.inl rfl))
                            go_wp2
                            go_roundw
                            case rel => exact ⟨k + 1, by omega, by go_num, IN.out, B3.out, W3.out⟩
                            case measure => simp [intOf]; omega
                          · have X := Lib.hid (NO.out (fun h => hi (by have := (h.h_items k hlt).1; rw [HX.out] at this; exact this)))
                            rw [bB_no hi]
                            clear hi
                            go_wp2
                            go_ret
                            exact ⟨ret_no X.out, B3.out⟩
                        · obtain rfl : k = ni := by omega
                          go_wp2_with fail
                          go_loopw [8] (fun i wr => ∃ k : Nat, k ≤ 0 ∧ i = .int .i64 k ∧ (∀ j, j < k → n ≠ 0 ∧ IsV (n - 1) (parts.getD j noV)) ∧ Below w.heap.size w wr ∧ wr.heap[w.heap.size]? = w2.heap[w.heap.size]?) (fun i _ => 0 - (intOf i).toNat)
                          case atStart => exact ⟨0, Nat.zero_le _, rfl, fun _ h => absurd h (Nat.not_lt_zero _), BB.out, KW.out⟩
                          case round =>
                            clear BB KB KW k0 k1 k2 k3 k4 k5 k6 k7
                            obtain ⟨k, hk, rfl, hit, hb, hblk⟩ := hrel
                            have PT := Lib.hid hit
                            have BB := Lib.hid hb
                            have KB := Lib.hid (hblk.trans K2.out)
                            have KW := Lib.hid hblk
                            clear hit hb hblk
                            obtain ⟨k0, k1, k2, k3, k4, k5, k6, k7⟩ := vec8 KB.out
                            have hz := (Array.getElem?_eq_some_iff.1 KB.out).1
                            by_cases hlt : k < 0
                            · exact absurd hlt (Nat.not_lt_zero _)
                            · obtain rfl : k = 0 := by omega
                              have X := Lib.hid (YES.out ⟨by omega, by omega, by omega, Q1.out, Q2.out, Q3.out, by omega, by omega, by omega, by omega, by omega, by omega, fun i hi => IT.out i hi⟩ (fun i hi => PT.out i hi))
                              go_wp2
                              go_ret
                              exact ⟨ret_yes X.out, BB.out⟩
        · have X := Lib.hid (NO.out (fun h => q3 h.h_levels))
          rw [bB_no q3]
          clear q3
          go_wp2
          go_ret
          exact ⟨ret_no X.out, B2.out⟩
      · have X := Lib.hid (NO.out (fun h => q2 h.h_cls))
        rw [bB_no q2]
        clear q2
        go_wp2
        go_ret
        exact ⟨ret_no X.out, B2.out⟩
    · have X := Lib.hid (NO.out (fun h => q1 h.h_named))
      rw [bB_no q1]
      clear q1
      go_wp2
      go_ret
      exact ⟨ret_no X.out, B2.out⟩
  · subst h

    go_wp2_with fail
    refine (CNm.out _ B2.out).mono ?_
    rintro e w' ⟨rfl, rfl⟩
    by_cases q1 : NamedOk (txtS names) nn
    · rw [bB_yes q1]
      have Q1 := Lib.hid q1
      clear q1
      go_wp2_with fail
      refine (CCl.out _ B2.out).mono ?_
      rintro e w' ⟨rfl, rfl⟩
      by_cases q2 : LabelsOk (txtS cls) nc 3
      · rw [bB_yes q2]
        have Q2 := Lib.hid q2
        clear q2
        go_wp2_with fail
        refine (CLv.out _ B2.out).mono ?_
        rintro e w' ⟨rfl, rfl⟩
        by_cases q3 : LabelsOk (txtS levels) nl 20
        · rw [bB_yes q3]
          have Q3 := Lib.hid q3
          clear q3
          by_cases v5 : kk = 5
          · subst v5
            by_cases u4 : 0 < nl
            · have X := Lib.hid (NO.out (fun h => by have := h.h_noLevels (by omega); omega))
              go_wp2
              go_ret
              exact ⟨ret_no X.out, B2.out⟩
            · obtain rfl : nl = 0 := by omega
              by_cases u5 : 0 < np
              · have X := Lib.hid (NO.out (fun h => by have := h.h_noParts (by omega); omega))
                go_wp2
                go_ret
                exact ⟨ret_no X.out, B2.out⟩
              · obtain rfl : np = 0 := by omega
                clear u4 u5
                by_cases u0 : ni = 0
                · subst u0
                  have X := Lib.hid (NO.out (fun h => by have := h.h_func rfl; omega))
                  go_wp2
                  go_ret
                  exact ⟨ret_no X.out, B2.out⟩
                · have X := Lib.hid (NO.out (fun h => by have := h.h_func rfl; omega))
                  go_wp2
                  go_ret
                  exact ⟨ret_no X.out, B2.out⟩
          by_cases v0 : kk = 0
          · subst v0
            by_cases u6 : ¬ code = 0
            · have X := Lib.hid (NO.out (fun h => by have := h.h_code (by omega); omega))
              go_wp2
              go_ret
              exact ⟨ret_no X.out, B2.out⟩
            · obtain rfl : code = 0 := by omega
              by_cases u7 : ¬ env = 0
              · have X := Lib.hid (NO.out (fun h => by have := h.h_code (by omega); omega))
                go_wp2
                go_ret
                exact ⟨ret_no X.out, B2.out⟩
              · obtain rfl : env = 0 := by omega
                clear u6 u7
                by_cases u4 : 0 < nl
                · have X := Lib.hid (NO.out (fun h => by have := h.h_noLevels (by omega); omega))
                  go_wp2
                  go_ret
                  exact ⟨ret_no X.out, B2.out⟩
                · obtain rfl : nl = 0 := by omega
                  by_cases u5 : 0 < np
                  · have X := Lib.hid (NO.out (fun h => by have := h.h_noParts (by omega); omega))
                    go_wp2
                    go_ret
                    exact ⟨ret_no X.out, B2.out⟩
                  · obtain rfl : np = 0 := by omega
                    clear u4 u5
                    have hni : ni = nn := by have := EL.out; rw [lenNot (by omega)] at this; omega
                    have X := Lib.hid (NO.out (fun h => by have := h.h_null rfl; omega))
                    clear hni
                    go_wp2
                    go_ret
                    exact ⟨ret_bB (by rw [bB_no X.out] <;> (first | rfl | exact decide_eq_false (by omega) | (simp; done) | (simp; omega))), B2.out⟩
          by_cases u6 : ¬ code = 0
          · have X := Lib.hid (NO.out (fun h => by have := h.h_code (by omega); omega))
            go_wp2
            go_ret
            exact ⟨ret_no X.out, B2.out⟩
          · obtain rfl : code = 0 := by omega
            by_cases u7 : ¬ env = 0
            · have X := Lib.hid (NO.out (fun h => by have := h.h_code (by omega); omega))
              go_wp2
              go_ret
              exact ⟨ret_no X.out, B2.out⟩
            · obtain rfl : env = 0 := by omega
              clear u6 u7
              by_cases v2 : kk = 2
              · subst v2
                clear v5 v0
                by_cases u5 : 0 < np
                · have X := Lib.hid (NO.out (fun h => by have := h.h_noParts (by omega); omega))
                  go_wp2
                  go_ret
                  exact ⟨ret_no X.out, B2.out⟩
                · obtain rfl : np = 0 := by omega
                  clear u5

                  go_wp2_with fail
                  go_loopw [6] (fun i wr => ∃ k : Nat, k ≤ ni ∧ i = .int .i64 k ∧ (∀ j, j < k → ItOk 2 (items.getD j noI) ∧ LevOk nl (items.getD j noI)) ∧ Below w.heap.size w wr ∧ wr.heap[w.heap.size]? = w2.heap[w.heap.size]?) (fun i _ => ni - (intOf i).toNat)
                  case atStart => exact ⟨0, Nat.zero_le _, rfl, fun _ h => absurd h (Nat.not_lt_zero _), B2.out, rfl⟩
                  case round =>
                    obtain ⟨k, hk, rfl, hit, hb, hblk⟩ := hrel
                    have IT := Lib.hid hit
                    have BB := Lib.hid hb
                    have KB := Lib.hid (hblk.trans K2.out)
                    have KW := Lib.hid hblk
                    clear hit hb hblk k0 k1 k2 k3 k4 k5 k6 k7
                    obtain ⟨k0, k1, k2, k3, k4, k5, k6, k7⟩ := vec8 KB.out
                    have hz := (Array.getElem?_eq_some_iff.1 KB.out).1
                    by_cases hlt : k < ni
                    · obtain ⟨b, off, rfl, hbB, c0, c1, c2⟩ := AI.out _ _ hlt BB.out
                      obtain ⟨⟨xn, xd, xt⟩, hx⟩ : ∃ x : It, items.getD k noI = x := ⟨_, rfl⟩
                      have ht : txtI items k = xt := by unfold txtI; rw [hx]
                      rw [hx] at c0 c1
                      rw [ht] at c2
                      simp only at c0 c1
                      have C := Lib.hid (fun w1 => (by have h := CIt.out k w1 hlt; rw [hx] at h; exact h : Calls Tryz.prog 65 #[.int .i64 2, .agg #[.int .i64 xn, .int .i64 xd, .string xt]] w1 fun e w' => e = .returned (.bool (bB (ItOk 2 ⟨xn, xd, xt⟩))) ∧ Below w1.heap.size w1 w'))
                      have HX := Lib.hid hx
                      clear hx ht
                      go_wp2_with fail
                      refine (C.out _).mono ?_
                      rintro e w3 ⟨rfl, b3⟩
                      have B3 := Lib.hid (below_then (below_then BB.out (below1 wr _)) b3)
                      have K3 := Lib.hid (blk_below b3 (blk_old KB.out))
                      have X3 := Lib.hid (blk_below b3 (blk_new wr _ rfl))
                      have W3 := Lib.hid (K3.out.trans K2.out.symm)
                      clear b3 k0 k1 k2 k3 k4 k5 k6 k7
                      obtain ⟨k0, k1, k2, k3, k4, k5, k6, k7⟩ := vec8 K3.out
                      obtain ⟨⟨x0, x1, x2⟩, _⟩ := three X3.out
                      by_cases hi : ItOk 2 ⟨xn, xd, xt⟩
                      · rw [bB_yes hi]
                        have HI := Lib.hid hi
                        clear hi
                        have FIN := Lib.hid (fun (h : LevOk nl ⟨xn, xd, xt⟩) => (fun j hj => by
                          by_cases e : j = k
                          · subst e; rw [HX.out]; exact ⟨HI.out, h⟩
                          · exact IT.out j (by omega) : ∀ j, j < k + 1 → ItOk 2 (items.getD j noI) ∧ LevOk nl (items.getD j noI)))
                        by_cases n0 : nl = 0
                        · subst n0
                          have IN := Lib.hid (FIN.out (.inl rfl))
                          go_wp2
                          go_roundw
                          case rel => exact ⟨k + 1, by omega, by go_num, IN.out, B3.out, W3.out⟩
                          case measure => simp [intOf]; omega
                        · have n0' : 0 < nl := by omega
                          by_cases d0 : xd = 0
                          · subst d0
                            have IN := Lib.hid (FIN.out (.inr (.inl rfl)))
                            go_wp2
                            go_roundw
                            case rel => exact ⟨k + 1, by omega, by go_num, IN.out, B3.out, W3.out⟩
                            case measure => simp [intOf]; omega
                          · by_cases d1 : xd = 1
                            · subst d1
                              by_cases i0 : xn < 1 ∨ nl < xn
                              · have X := Lib.hid (NO.out (fun h => by have := (h.h_items k hlt).2; rw [HX.out] at this; rcases this with h | h | h <;> (try simp only at h) <;> omega))
                                have CX := Lib.hid (fun w => inNo xn 1 nl w i0)
                                clear i0
                                go_wp2_with fail
                                refine (CX.out _).mono ?_
                                rintro e w' ⟨rfl, rfl⟩
                                go_wp2
                                go_ret
                                exact ⟨ret_no X.out, B3.out⟩
                              · have IN := Lib.hid (FIN.out (.inr (.inr ⟨rfl, by simp only; omega, by simp only; omega⟩)))
                                have CX := Lib.hid (fun w => inYes xn 1 nl w (by omega) (by omega))
                                go_wp2_with fail
                                refine (CX.out _).mono ?_
                                rintro e w' ⟨rfl, rfl⟩
                                go_wp2
                                go_roundw
                                case rel => exact ⟨k + 1, by omega, by go_num, IN.out, B3.out, W3.out⟩
                                case measure => simp [intOf]; omega
                            · have X := Lib.hid (NO.out (fun h => by have := (h.h_items k hlt).2; rw [HX.out] at this; rcases this with h | h | h <;> (try simp only at h) <;> omega))
                              go_wp2
                              go_ret
                              exact ⟨ret_no X.out, B3.out⟩
                      · have X := Lib.hid (NO.out (fun h => hi (by have := (h.h_items k hlt).1; rw [HX.out] at this; exact this)))
                        rw [bB_no hi]
                        clear hi
                        go_wp2
                        go_ret
                        exact ⟨ret_no X.out, B3.out⟩
                    · obtain rfl : k = ni := by omega
                      go_wp2_with fail
                      go_loopw [8] (fun i wr => ∃ k : Nat, k ≤ 0 ∧ i = .int .i64 k ∧ (∀ j, j < k → n ≠ 0 ∧ IsV (n - 1) (parts.getD j noV)) ∧ Below w.heap.size w wr ∧ wr.heap[w.heap.size]? = w2.heap[w.heap.size]?) (fun i _ => 0 - (intOf i).toNat)
                      case atStart => exact ⟨0, Nat.zero_le _, rfl, fun _ h => absurd h (Nat.not_lt_zero _), BB.out, KW.out⟩
                      case round =>
                        clear BB KB KW k0 k1 k2 k3 k4 k5 k6 k7
                        obtain ⟨k, hk, rfl, hit, hb, hblk⟩ := hrel
                        have PT := Lib.hid hit
                        have BB := Lib.hid hb
                        have KB := Lib.hid (hblk.trans K2.out)
                        have KW := Lib.hid hblk
                        clear hit hb hblk
                        obtain ⟨k0, k1, k2, k3, k4, k5, k6, k7⟩ := vec8 KB.out
                        have hz := (Array.getElem?_eq_some_iff.1 KB.out).1
                        by_cases hlt : k < 0
                        · exact absurd hlt (Nat.not_lt_zero _)
                        · obtain rfl : k = 0 := by omega
                          have X := Lib.hid (YES.out ⟨by omega, by omega, by omega, Q1.out, Q2.out, Q3.out, by omega, by omega, by omega, by omega, by omega, by omega, fun i hi => IT.out i hi⟩ (fun i hi => PT.out i hi))
                          go_wp2
                          go_ret
                          exact ⟨ret_yes X.out, BB.out⟩
              · by_cases u4 : 0 < nl
                · have X := Lib.hid (NO.out (fun h => by have := h.h_noLevels v2; omega))
                  go_wp2
                  go_ret
                  exact ⟨ret_no X.out, B2.out⟩
                · obtain rfl : nl = 0 := by omega
                  clear u4
                  by_cases v4 : kk = 4
                  · subst v4
                    clear v5 v0 v2
                    by_cases u8 : 0 < ni
                    · have X := Lib.hid (NO.out (fun h => by have := h.h_list rfl; omega))
                      go_wp2
                      go_ret
                      exact ⟨ret_no X.out, B2.out⟩
                    · obtain rfl : ni = 0 := by omega
                      clear u8

                      go_wp2_with fail
                      go_loopw [6] (fun i wr => ∃ k : Nat, k ≤ 0 ∧ i = .int .i64 k ∧ (∀ j, j < k → ItOk 4 (items.getD j noI) ∧ LevOk 0 (items.getD j noI)) ∧ Below w.heap.size w wr ∧ wr.heap[w.heap.size]? = w2.heap[w.heap.size]?) (fun i _ => 0 - (intOf i).toNat)
                      case atStart => exact ⟨0, Nat.zero_le _, rfl, fun _ h => absurd h (Nat.not_lt_zero _), B2.out, rfl⟩
                      case round =>
                        obtain ⟨k, hk, rfl, hit, hb, hblk⟩ := hrel
                        have IT := Lib.hid hit
                        have BB := Lib.hid hb
                        have KB := Lib.hid (hblk.trans K2.out)
                        have KW := Lib.hid hblk
                        clear hit hb hblk k0 k1 k2 k3 k4 k5 k6 k7
                        obtain ⟨k0, k1, k2, k3, k4, k5, k6, k7⟩ := vec8 KB.out
                        have hz := (Array.getElem?_eq_some_iff.1 KB.out).1
                        by_cases hlt : k < 0
                        · exact absurd hlt (Nat.not_lt_zero _)
                        · obtain rfl : k = 0 := by omega
                          go_wp2_with fail
                          go_loopw [8] (fun i wr => ∃ k : Nat, k ≤ np ∧ i = .int .i64 k ∧ (∀ j, j < k → n ≠ 0 ∧ IsV (n - 1) (parts.getD j noV)) ∧ Below w.heap.size w wr ∧ wr.heap[w.heap.size]? = w2.heap[w.heap.size]?) (fun i _ => np - (intOf i).toNat)
                          case atStart => exact ⟨0, Nat.zero_le _, rfl, fun _ h => absurd h (Nat.not_lt_zero _), BB.out, KW.out⟩
                          case round =>
                            clear BB KB KW k0 k1 k2 k3 k4 k5 k6 k7
                            obtain ⟨k, hk, rfl, hit, hb, hblk⟩ := hrel
                            have PT := Lib.hid hit
                            have BB := Lib.hid hb
                            have KB := Lib.hid (hblk.trans K2.out)
                            have KW := Lib.hid hblk
                            clear hit hb hblk
                            obtain ⟨k0, k1, k2, k3, k4, k5, k6, k7⟩ := vec8 KB.out
                            have hz := (Array.getElem?_eq_some_iff.1 KB.out).1
                            by_cases hlt : k < np
                            · obtain ⟨b, off, u0, u1, u2, u3, u4, u5, u6, u7, rfl, hbB, hv, c0, c1, c2, c3, c4, c5, c6, c7⟩ := AP.out _ _ hlt BB.out
                              by_cases hn0 : n = 0
                              · have X := Lib.hid (NP.out k hlt (.inl hn0))
                                clear hv
                                subst hn0
                                go_wp2
                                go_ret
                                exact ⟨ret_no X.out, BB.out⟩
                              · have C := Lib.hid (CIs.out hn0 k wr _ hlt BB.out hv)
                                clear hv
                                have hn0' : 0 < n := by omega
                                go_wp2_with fail
                                with_reducible refine C.out.mono ?_
                                rintro e w4 ⟨rfl, b4⟩
                                have B4 := Lib.hid (below_then BB.out b4)
                                have K4 := Lib.hid ((blk_below b4 KB.out).trans K2.out.symm)
                                clear b4
                                by_cases hp : IsV (n - 1) (parts.getD k noV)
                                · rw [bB_yes hp]
                                  have HP := Lib.hid hp
                                  clear hp
                                  have PN := Lib.hid (show ∀ j, j < k + 1 → n ≠ 0 ∧ IsV (n - 1) (parts.getD j noV) from fun j hj => by
                                    by_cases e : j = k
                                    · subst e; exact ⟨hn0, HP.out⟩
                                    · exact PT.out j (by omega))
                                  go_wp2
                                  go_roundw
                                  case rel => first | exact ⟨k + 1, by omega, by go_num, PN.out, B4.out, K4.out⟩ | ((repeat apply Exists.intro); exact ⟨⟨k + 1, by omega, by go_num, PN.out, B4.out, K4.out⟩, rfl⟩)
                                  case measure => simp [intOf]; omega
                                · have X := Lib.hid (NP.out k hlt (.inr hp))
                                  rw [bB_no hp]
                                  clear hp
                                  go_wp2
                                  go_ret
                                  exact ⟨ret_no X.out, B4.out⟩
                            · obtain rfl : k = np := by omega
                              have X := Lib.hid (YES.out ⟨by omega, by omega, by omega, Q1.out, Q2.out, Q3.out, by omega, by omega, by omega, by omega, by omega, by omega, fun i hi => IT.out i hi⟩ (fun i hi => PT.out i hi))
                              go_wp2
                              go_ret
                              exact ⟨ret_yes X.out, BB.out⟩
                  · by_cases u5 : 0 < np
                    · have X := Lib.hid (NO.out (fun h => by have := h.h_noParts v4; omega))
                      go_wp2
                      go_ret
                      exact ⟨ret_no X.out, B2.out⟩
                    · obtain rfl : np = 0 := by omega
                      clear u5

                      go_wp2_with fail
                      go_loopw [6] (fun i wr => ∃ k : Nat, k ≤ ni ∧ i = .int .i64 k ∧ (∀ j, j < k → ItOk kk (items.getD j noI) ∧ LevOk 0 (items.getD j noI)) ∧ Below w.heap.size w wr ∧ wr.heap[w.heap.size]? = w2.heap[w.heap.size]?) (fun i _ => ni - (intOf i).toNat)
                      case atStart => exact ⟨0, Nat.zero_le _, rfl, fun _ h => absurd h (Nat.not_lt_zero _), B2.out, rfl⟩
                      case round =>
                        obtain ⟨k, hk, rfl, hit, hb, hblk⟩ := hrel
                        have IT := Lib.hid hit
                        have BB := Lib.hid hb
                        have KB := Lib.hid (hblk.trans K2.out)
                        have KW := Lib.hid hblk
                        clear hit hb hblk k0 k1 k2 k3 k4 k5 k6 k7
                        obtain ⟨k0, k1, k2, k3, k4, k5, k6, k7⟩ := vec8 KB.out
                        have hz := (Array.getElem?_eq_some_iff.1 KB.out).1
                        by_cases hlt : k < ni
                        · obtain ⟨b, off, rfl, hbB, c0, c1, c2⟩ := AI.out _ _ hlt BB.out
                          obtain ⟨⟨xn, xd, xt⟩, hx⟩ : ∃ x : It, items.getD k noI = x := ⟨_, rfl⟩
                          have ht : txtI items k = xt := by unfold txtI; rw [hx]
                          rw [hx] at c0 c1
                          rw [ht] at c2
                          simp only at c0 c1
                          have C := Lib.hid (fun w1 => (by have h := CIt.out k w1 hlt; rw [hx] at h; exact h : Calls Tryz.prog 65 #[.int .i64 kk, .agg #[.int .i64 xn, .int .i64 xd, .string xt]] w1 fun e w' => e = .returned (.bool (bB (ItOk kk ⟨xn, xd, xt⟩))) ∧ Below w1.heap.size w1 w'))
                          have HX := Lib.hid hx
                          clear hx ht
                          go_wp2_with fail
                          refine (C.out _).mono ?_
                          rintro e w3 ⟨rfl, b3⟩
                          have B3 := Lib.hid (below_then (below_then BB.out (below1 wr _)) b3)
                          have K3 := Lib.hid (blk_below b3 (blk_old KB.out))
                          have X3 := Lib.hid (blk_below b3 (blk_new wr _ rfl))
                          have W3 := Lib.hid (K3.out.trans K2.out.symm)
                          clear b3 k0 k1 k2 k3 k4 k5 k6 k7
                          obtain ⟨k0, k1, k2, k3, k4, k5, k6, k7⟩ := vec8 K3.out
                          obtain ⟨⟨x0, x1, x2⟩, _⟩ := three X3.out
                          by_cases hi : ItOk kk ⟨xn, xd, xt⟩
                          · rw [bB_yes hi]
                            have HI := Lib.hid hi
                            clear hi
                            have FIN := Lib.hid (fun (h : LevOk 0 ⟨xn, xd, xt⟩) => (fun j hj => by
                              by_cases e : j = k
                              · subst e; rw [HX.out]; exact ⟨HI.out, h⟩
                              · exact IT.out j (by omega) : ∀ j, j < k + 1 → ItOk kk (items.getD j noI) ∧ LevOk 0 (items.getD j noI)))
                            have IN := Lib.hid (FIN.out (.inl rfl))
                            go_wp2
                            go_roundw
                            case rel => exact ⟨k + 1, by omega, by go_num, IN.out, B3.out, W3.out⟩
                            case measure => simp [intOf]; omega
                          · have X := Lib.hid (NO.out (fun h => hi (by have := (h.h_items k hlt).1; rw [HX.out] at this; exact this)))
                            rw [bB_no hi]
                            clear hi
                            go_wp2
                            go_ret
                            exact ⟨ret_no X.out, B3.out⟩
                        · obtain rfl : k = ni := by omega
                          go_wp2_with fail
                          go_loopw [8] (fun i wr => ∃ k : Nat, k ≤ 0 ∧ i = .int .i64 k ∧ (∀ j, j < k → n ≠ 0 ∧ IsV (n - 1) (parts.getD j noV)) ∧ Below w.heap.size w wr ∧ wr.heap[w.heap.size]? = w2.heap[w.heap.size]?) (fun i _ => 0 - (intOf i).toNat)
                          case atStart => exact ⟨0, Nat.zero_le _, rfl, fun _ h => absurd h (Nat.not_lt_zero _), BB.out, KW.out⟩
                          case round =>
                            clear BB KB KW k0 k1 k2 k3 k4 k5 k6 k7
                            obtain ⟨k, hk, rfl, hit, hb, hblk⟩ := hrel
                            have PT := Lib.hid hit
                            have BB := Lib.hid hb
                            have KB := Lib.hid (hblk.trans K2.out)
                            have KW := Lib.hid hblk
                            clear hit hb hblk
                            obtain ⟨k0, k1, k2, k3, k4, k5, k6, k7⟩ := vec8 KB.out
                            have hz := (Array.getElem?_eq_some_iff.1 KB.out).1
                            by_cases hlt : k < 0
                            · exact absurd hlt (Nat.not_lt_zero _)
                            · obtain rfl : k = 0 := by omega
                              have X := Lib.hid (YES.out ⟨by omega, by omega, by omega, Q1.out, Q2.out, Q3.out, by omega, by omega, by omega, by omega, by omega, by omega, fun i hi => IT.out i hi⟩ (fun i hi => PT.out i hi))
                              go_wp2
                              go_ret
                              exact ⟨ret_yes X.out, BB.out⟩
        · have X := Lib.hid (NO.out (fun h => q3 h.h_levels))
          rw [bB_no q3]
          clear q3
          go_wp2
          go_ret
          exact ⟨ret_no X.out, B2.out⟩
      · have X := Lib.hid (NO.out (fun h => q2 h.h_cls))
        rw [bB_no q2]
        clear q2
        go_wp2
        go_ret
        exact ⟨ret_no X.out, B2.out⟩
    · have X := Lib.hid (NO.out (fun h => q1 h.h_named))
      rw [bB_no q1]
      clear q1
      go_wp2
      go_ret
      exact ⟨ret_no X.out, B2.out⟩
end Go.Proofs.YtikgcogiiohahaaGreatDoor
