/- The program's countCells, IsVector, CellCount and LengthOf. -/
import Derived.Test.YtddebgmjolojeaaRows
import Derived.Test.YtddebgmjolojeaaVecImC
import Derived.Test.YtddebgmjolojeaaVecCnt
import Derived.WalkKit
import Derived.Lib.Hide
namespace Go.Proofs.Ytddebgmjolojeaa
open Go.RowKit
set_option maxRecDepth 100000
set_option linter.unusedVariables false

theorem count_iff {n : Nat} {v : Vec} : CountOk n v ↔ FlatV v ∧ (n = 0 → (partsV v).length = 0) ∧ (∀ i, i < (partsV v).length → CountOk (n - 1) ((partsV v).getD i noV)) ∧ lengthV v + sumN (fun i => cellsV (n - 1) ((partsV v).getD i noV)) (partsV v).length ≤ 200 := by
  constructor
  · rintro ⟨h, hc⟩
    have e := cellsV_eq h
    rw [e] at hc
    have hi := isV_iff.1 h
    refine ⟨hi.1, fun h0 => ?_, fun i hi' => ⟨(hi.2 i hi').2, ?_⟩, hc⟩
    · rcases Nat.eq_zero_or_pos (partsV v).length with e | e
      · exact e
      · exact absurd h0 (hi.2 0 e).1
    · have := sumN_at (fun i => cellsV (n - 1) ((partsV v).getD i noV)) hi'
      (try simp only at this)
      omega
  · rintro ⟨h1, h2, h3, h4⟩
    have h : IsV n v := isV_iff.2 ⟨h1, fun i hi => ⟨fun h0 => by have := h2 h0; omega, (h3 i hi).1⟩⟩
    exact ⟨h, by rw [cellsV_eq h]; exact h4⟩
structure ICoOk (n : Nat) : Prop where
  out : ∀ (d : Nat) (v : Vec) (val : Value) (lo hi : Nat) (w : World), VecAt lo hi w d v val → hi ≤ w.heap.size → Small d v →
    Calls Try.prog 25 #[val, .int .i64 n] w fun e w' => e = .returned (.tuple #[.int .i64 (cntV n v), .bool (bB (CountOk n v))]) ∧ Below w.heap.size w w'
theorem ret2_no {n : Nat} {v : Vec} (h : ¬ CountOk n v) : Ending.returned (.tuple #[.int .i64 0, .bool false]) = .returned (.tuple #[.int .i64 (cntV n v), .bool (bB (CountOk n v))]) := by rw [cnt_no h, bB_no h]
theorem ret2_yes {n : Nat} {v : Vec} {x : Int} (h : CountOk n v) (hx : x = cellsV n v) : Ending.returned (.tuple #[.int .i64 x, .bool true]) = .returned (.tuple #[.int .i64 (cntV n v), .bool (bB (CountOk n v))]) := by rw [cnt_yes h, bB_yes h, hx]
set_option maxHeartbeats 4000000 in
theorem iCoStep (n : Nat) (hn3 : n ≤ 3) (IH : ∀ m, n = m + 1 → ICoOk m) : ICoOk n := by
  refine ⟨fun d v val lo hi w hv hhi hsm => ?_⟩
  have CF := Lib.hid (fun (w1 : World) (hb : Below w.heap.size w w1) => implFlat d v val lo hi w1 (hv.below hb hhi) (Nat.le_trans hhi hb.size) hsm)
  have XC := Lib.hid (count_iff (n := n) (v := v))
  have XQ := Lib.hid (fun h => cellsV_eq (n := n) (v := v) h)
  obtain ⟨VV, hVV⟩ : ∃ VV, v = VV := ⟨_, rfl⟩
  rw [hVV] at CF XC XQ ⊢
  obtain ⟨kk, items, parts, names, cls, levels, code, env⟩ := v
  obtain ⟨d', ai, ci, ap, cp, an, cn, ac, cc, al, cl, ed, rfl, hI, hN, hC, hL, hP⟩ := vecAt_open hv
  subst ed
  have hsp : ∀ i, i < parts.length → Small d' (parts.getD i noV) := fun i hi => hsm.part hi
  obtain ⟨li, lp, ln, lc, ll, _⟩ := hsm
  have CLn := Lib.hid (fun (w1 : World) => implLen kk ai ap an ac al items.length ci parts.length cp names.length cn cls.length cc levels.length cl code env w1 li lp)
  have AP := Lib.hid (fun (k : Nat) (w1 : World) (hk : k < parts.length) (hb : Below w.heap.size w w1) => (hP.below hb hhi).at_ hk)
  have CIs := Lib.hid (fun (h0 : n ≠ 0) (i : Nat) (w1 : World) (val : Value) (hi' : i < parts.length) (hb : Below w.heap.size w w1) (hv : VecAt lo hi w1 d' (parts.getD i noV) val) => (by
    obtain ⟨m, rfl⟩ : ∃ m, n = m + 1 := ⟨n - 1, by omega⟩
    have e : (((m + 1 : Nat) : Int) - 1) = (m : Int) := by omega
    rw [e]
    exact (IH m rfl).out d' _ val lo hi w1 hv (Nat.le_trans hhi hb.size) (hsp i hi') : Calls Try.prog 25 #[val, .int .i64 ((n : Int) - 1)] w1 fun e w' => e = .returned (.tuple #[.int .i64 (cntV (n - 1) (parts.getD i noV)), .bool (bB (CountOk (n - 1) (parts.getD i noV)))]) ∧ Below w1.heap.size w1 w'))
  have e1 : lengthV VV = lenV kk items.length parts.length := by rw [← hVV]; rfl
  have e2 : partsV VV = parts := by rw [← hVV]; rfl
  rw [e1, e2] at XC XQ
  have e1L := e1
  clear hv hI hN hC hL hP hsp IH hVV e1 e2
  obtain ⟨ni, hni⟩ : ∃ x, items.length = x := ⟨_, rfl⟩
  obtain ⟨np, hnp⟩ : ∃ x, parts.length = x := ⟨_, rfl⟩
  obtain ⟨nn, hnn⟩ : ∃ x, names.length = x := ⟨_, rfl⟩
  obtain ⟨nc, hnc⟩ : ∃ x, cls.length = x := ⟨_, rfl⟩
  obtain ⟨nl, hnl⟩ : ∃ x, levels.length = x := ⟨_, rfl⟩
  obtain ⟨L, hL⟩ : ∃ L, lenV kk ni np = L := ⟨_, rfl⟩
  rw [hni, hnp, hnn, hnc, hnl] at CLn CF
  rw [hnp] at AP CIs lp
  rw [hni, hnp] at XC XQ e1L
  rw [hni, hnp, hnn, hnc, hnl]
  rw [hL] at CLn XC XQ e1L
  have hL40 := Lib.hid (fun (h : FlatV VV) => (by have := h.len; rw [e1L] at this; exact this : L ≤ 40))
  clear e1L
  clear hni hnp hnn hnc hnl hL li ln lc ll
  go_enter Try.func25, Try.ntmps25
  go_wp2_with fail
  have B0 := Lib.hid (below1 w (.cells #[.int .i64 kk, .slice ai ni ci, .slice ap np cp, .slice an nn cn, .slice ac nc cc, .slice al nl cl, .int .i64 code, .int .i64 env] 32))
  have K0 := Lib.hid (blk_new w (.cells #[.int .i64 kk, .slice ai ni ci, .slice ap np cp, .slice an nn cn, .slice ac nc cc, .slice al nl cl, .int .i64 code, .int .i64 env] 32) rfl)
  with_reducible refine (CF.out _ B0.out).mono ?_
  rintro e w1 ⟨rfl, b⟩
  have B1 := Lib.hid (below_then B0.out b)
  have K1 := Lib.hid (blk_below b K0.out)
  clear b
  obtain ⟨k0, k1, k2, k3, k4, k5, k6, k7⟩ := vec8 K1.out
  by_cases hF : FlatV VV
  · rw [bB_yes hF]
    have HF := Lib.hid hF
    clear hF
    by_cases h0 : n = 0 ∧ 0 < np
    · obtain ⟨h0, h1⟩ := h0
      have X := Lib.hid (show ¬ CountOk n VV from fun h => by have := (XC.out.1 h).2.1 h0; omega)
      subst h0
      go_wp2
      go_ret2
      exact ⟨ret2_no X.out, B1.out⟩
    · have hd : n = 0 ∧ np = 0 ∨ ¬ n = 0 := by omega
      have H0 := Lib.hid h0
      clear h0
      rcases hd with ⟨h1, h2⟩ | hnz
      · subst h1 h2
        go_wp2_with fail
        with_reducible refine (CLn.out _).mono ?_
        rintro e w2 ⟨rfl, b⟩
        have B2 := Lib.hid (below_then B1.out b)
        have K2 := Lib.hid (blk_below b K1.out)
        clear b k0 k1 k2 k3 k4 k5 k6 k7
        obtain ⟨k0, k1, k2, k3, k4, k5, k6, k7⟩ := vec8 K2.out
        have HL := Lib.hid (hL40.out HF.out)
        go_wp2_with fail
        go_loopw [6, 29] (fun c i wr => ∃ k : Nat, k ≤ 0 ∧ i = .int .i64 k ∧ c = .int .i64 ((L + sumN (fun i => cellsV (0 - 1) (parts.getD i noV)) k : Nat) : Int) ∧ L + sumN (fun i => cellsV (0 - 1) (parts.getD i noV)) k ≤ 200 ∧ (∀ j, j < k → CountOk (0 - 1) (parts.getD j noV)) ∧ Below w.heap.size w wr) (fun _ i _ => 0 - (intOf i).toNat)
        case atStart => exact ⟨0, Nat.zero_le _, rfl, by simp [sumN], by have := HL.out; simp only [sumN]; omega, fun _ h => absurd h (Nat.not_lt_zero _), B2.out⟩
        case round =>
          obtain ⟨k, hk, rfl, rfl, hsum, hok, hb⟩ := hrel
          have OK := Lib.hid hok
          have SM := Lib.hid hsum
          have BB := Lib.hid hb
          clear hb hok hsum
          by_cases hlt : k < 0
          · exact absurd hlt (Nat.not_lt_zero _)
          · obtain rfl : k = 0 := by omega
            have X := Lib.hid (show CountOk 0 VV from XC.out.2 ⟨HF.out, by intro _; first | rfl | trivial, OK.out, SM.out⟩)
            have XE := Lib.hid (XQ.out X.out.1)
            go_wp2
            go_ret2
            exact ⟨ret2_yes X.out (by rw [XE.out]), BB.out⟩
      · have h1' : 0 < n := by omega
        go_wp2_with fail
        with_reducible refine (CLn.out _).mono ?_
        rintro e w2 ⟨rfl, b⟩
        have B2 := Lib.hid (below_then B1.out b)
        have K2 := Lib.hid (blk_below b K1.out)
        clear b k0 k1 k2 k3 k4 k5 k6 k7
        obtain ⟨k0, k1, k2, k3, k4, k5, k6, k7⟩ := vec8 K2.out
        have HL := Lib.hid (hL40.out HF.out)
        go_wp2_with fail
        go_loopw [6, 29] (fun c i wr => ∃ k : Nat, k ≤ np ∧ i = .int .i64 k ∧ c = .int .i64 ((L + sumN (fun i => cellsV (n - 1) (parts.getD i noV)) k : Nat) : Int) ∧ L + sumN (fun i => cellsV (n - 1) (parts.getD i noV)) k ≤ 200 ∧ (∀ j, j < k → CountOk (n - 1) (parts.getD j noV)) ∧ Below w.heap.size w wr) (fun _ i _ => np - (intOf i).toNat)
        case atStart => exact ⟨0, Nat.zero_le _, rfl, by simp [sumN], by have := HL.out; simp only [sumN]; omega, fun _ h => absurd h (Nat.not_lt_zero _), B2.out⟩
        case round =>
          obtain ⟨k, hk, rfl, rfl, hsum, hok, hb⟩ := hrel
          have OK := Lib.hid hok
          have SM := Lib.hid hsum
          have BB := Lib.hid hb
          clear hb hok hsum
          by_cases hlt : k < np
          · obtain ⟨b, off, u0, u1, u2, u3, u4, u5, u6, u7, rfl, hbB, hv, c0, c1, c2, c3, c4, c5, c6, c7⟩ := AP.out _ _ hlt BB.out
            have hlt' : (k : Int) < (np : Int) := by omega
            obtain ⟨zk, a1, n1, m1, a2, n2, m2, a3, n3, m3, a4, n4, m4, a5, n5, m5, zc, ze, rfl, rfl, rfl, rfl, rfl, rfl, rfl, rfl⟩ := hv.cells
            have hh : hi ≤ wr.heap.size := Nat.le_trans hhi BB.out.size
            have HV := Lib.hid (fun o => hv.below (below1 wr o) hh)
            have HC := Lib.hid (fun o => CIs.out hnz k (wr.alloc o) _ hlt (below_then BB.out (below1 wr o)) (HV.out o))
            clear hv
            obtain ⟨S, hS⟩ : ∃ S, L + sumN (fun i => cellsV (n - 1) (parts.getD i noV)) k = S := ⟨_, rfl⟩
            have ES := Lib.hid hS
            have hS2 : S ≤ 200 := by have := SM.out; omega
            rw [hS]
            clear hS
            go_wp2_with fail
            with_reducible refine (HC.out _).mono ?_
            rintro e w4 ⟨rfl, b4⟩
            have B4 := Lib.hid (below_then (below_then BB.out (below1 wr _)) b4)
            clear b4
            by_cases hp : CountOk (n - 1) (parts.getD k noV)
            · rw [bB_yes hp, cnt_yes hp]
              have hle := hp.2
              have HP := Lib.hid hp
              clear hp
              obtain ⟨x, hx⟩ : ∃ x, cellsV (n - 1) (parts.getD k noV) = x := ⟨_, rfl⟩
              have EX := Lib.hid hx
              rw [hx] at hle ⊢
              clear hx
              by_cases h200 : 200 < S + x
              · have X := Lib.hid (show ¬ CountOk n VV from fun h => by
                  have h1 := (XC.out.1 h).2.2.2
                  have h2 := sumN_at (fun i => cellsV (n - 1) (parts.getD i noV)) hlt
                  (try simp only at h2)
                  have h3 := ES.out
                  have h4 := EX.out
                  omega)
                go_wp2
                go_ret2
                exact ⟨ret2_no X.out, B4.out⟩
              · have PN := Lib.hid (show ∀ j, j < k + 1 → CountOk (n - 1) (parts.getD j noV) from fun j hj => by
                  by_cases e : j = k
                  · subst e; exact HP.out
                  · exact OK.out j (by omega))
                have NE := Lib.hid (show L + sumN (fun i => cellsV (n - 1) (parts.getD i noV)) (k + 1) = S + x by
                  have h3 := ES.out
                  have h4 := EX.out
                  simp only [sumN]
                  omega)
                go_wp2
                go_roundw
                case rel => exact ⟨k + 1, by omega, by go_num, by rw [NE.out]; congr 1, by rw [NE.out]; omega, PN.out, B4.out⟩
                case measure => simp [intOf]; omega
            · have X := Lib.hid (show ¬ CountOk n VV from fun h => hp ((XC.out.1 h).2.2.1 k hlt))
              rw [bB_no hp, cnt_no hp]
              clear hp
              go_wp2
              go_ret2
              exact ⟨ret2_no X.out, B4.out⟩
          · obtain rfl : k = np := by omega
            have X := Lib.hid (show CountOk n VV from XC.out.2 ⟨HF.out, fun h => absurd h hnz, OK.out, SM.out⟩)
            have XE := Lib.hid (XQ.out X.out.1)
            go_wp2
            go_ret2
            exact ⟨ret2_yes X.out (by rw [XE.out]), BB.out⟩
  · have X := Lib.hid (show ¬ CountOk n VV from fun h => hF (XC.out.1 h).1)
    rw [bB_no hF]
    clear hF
    go_wp2
    go_ret2
    exact ⟨ret2_no X.out, B1.out⟩
theorem iCoAll : ∀ n, n ≤ 3 → ICoOk n
  | 0, h => iCoStep 0 h (fun m e => by omega)
  | n + 1, h => iCoStep (n + 1) h (fun m e => (Nat.succ.inj e) ▸ iCoAll n (by omega))
set_option maxHeartbeats 1000000 in
theorem implIsVector (d : Nat) (v : Vec) (val : Value) (lo hi : Nat) (w : World) (hv : VecAt lo hi w d v val) (hhi : hi ≤ w.heap.size) (hsm : Small d v) :
    Calls Try.prog 16 #[val] w fun e w' => e = .returned (.bool (bB (ValidV v))) ∧ Below w.heap.size w w' := by
  have C1 := Lib.hid (fun (w1 : World) (hb : Below w.heap.size w w1) => (show Calls Try.prog 25 #[val, .int .i64 3] w1 (fun e w' => e = .returned (.tuple #[.int .i64 (cntV 3 v), .bool (bB (CountOk 3 v))]) ∧ Below w1.heap.size w1 w') from (iCoAll 3 (Nat.le_refl _)).out d v val lo hi w1 (hv.below hb hhi) (Nat.le_trans hhi hb.size) hsm))
  obtain ⟨VV, hVV⟩ : ∃ VV, v = VV := ⟨_, rfl⟩
  have HV := Lib.hid hVV
  rw [hVV] at C1 ⊢
  clear hVV
  obtain ⟨kk, items, parts, names, cls, levels, code, env⟩ := v
  obtain ⟨d', ai, ci, ap, cp, an, cn, ac, cc, al, cl, ed, rfl, hI, hN, hC, hL, hP⟩ := vecAt_open hv
  clear hv hI hN hC hL hP hsm HV
  go_enter Try.func16, Try.ntmps16
  go_wp2_with fail
  have B0 := Lib.hid (below1 w (.cells #[.int .i64 kk, .slice ai items.length ci, .slice ap parts.length cp, .slice an names.length cn, .slice ac cls.length cc, .slice al levels.length cl, .int .i64 code, .int .i64 env] 32))
  have K0 := Lib.hid (blk_new w (.cells #[.int .i64 kk, .slice ai items.length ci, .slice ap parts.length cp, .slice an names.length cn, .slice ac cls.length cc, .slice al levels.length cl, .int .i64 code, .int .i64 env] 32) rfl)
  with_reducible refine (C1.out _ B0.out).mono ?_
  rintro e w1 ⟨rfl, b⟩
  have B1 := Lib.hid (below_then B0.out b)
  clear b
  go_wp2
  go_ret
  exact ⟨rfl, B1.out⟩
end Go.Proofs.Ytddebgmjolojeaa
