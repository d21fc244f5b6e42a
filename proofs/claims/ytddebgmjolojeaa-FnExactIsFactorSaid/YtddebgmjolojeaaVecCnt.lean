/- How many cells a vector has, by the reference; the reference's IsVector, CellCount and LengthOf. -/
import Derived.Test.YtddebgmjolojeaaRows
import Derived.Test.YtddebgmjolojeaaVecIs
import Derived.WalkKit
import Derived.Lib.Hide
namespace Go.Proofs.Ytddebgmjolojeaa
open Go.RowKit
set_option maxRecDepth 100000
set_option linter.unusedVariables false

theorem sIsAll : ∀ n, n ≤ 3 → SIsOk n
  | 0, h => sIsStep 0 h (fun m e => by omega)
  | n + 1, h => sIsStep (n + 1) h (fun m e => (Nat.succ.inj e) ▸ sIsAll n (by omega))
theorem cellsV_eq {n : Nat} {v : Vec} (h : IsV n v) : cellsV n v = lengthV v + sumN (fun i => cellsV (n - 1) ((partsV v).getD i noV)) (partsV v).length := by
  cases n with
  | zero =>
    have h0 : (partsV v).length = 0 := h.2
    rw [h0]; rfl
  | succ n => rfl
theorem VecAt.cells {lo hi : Nat} {w : World} {d : Nat} {v : Vec} {u0 u1 u2 u3 u4 u5 u6 u7 : Value} (h : VecAt lo hi w d v (.agg #[u0, u1, u2, u3, u4, u5, u6, u7])) :
    ∃ (k : Int) (a1 : Option Addr) (n1 m1 : Nat) (a2 : Option Addr) (n2 m2 : Nat) (a3 : Option Addr) (n3 m3 : Nat) (a4 : Option Addr) (n4 m4 : Nat) (a5 : Option Addr) (n5 m5 : Nat) (c e : Int),
      u0 = .int .i64 k ∧ u1 = .slice a1 n1 m1 ∧ u2 = .slice a2 n2 m2 ∧ u3 = .slice a3 n3 m3 ∧ u4 = .slice a4 n4 m4 ∧ u5 = .slice a5 n5 m5 ∧ u6 = .int .i64 c ∧ u7 = .int .i64 e := by
  obtain ⟨kk, items, parts, names, cls, levels, code, env⟩ := v
  obtain ⟨d', ai, ci, ap, cp, an, cn, ac, cc, al, cl, ed, he, _⟩ := vecAt_open h
  simp only [Value.agg.injEq, Array.mk.injEq, List.cons.injEq, and_true] at he
  obtain ⟨e0, e1, e2, e3, e4, e5, e6, e7⟩ := he
  exact ⟨_, _, _, _, _, _, _, _, _, _, _, _, _, _, _, _, _, _, e0, e1, e2, e3, e4, e5, e6, e7⟩
theorem capC3 : ∀ n, n ≤ 3 → capC n ≤ 3000000
  | 0, _ => by decide
  | 1, _ => by decide
  | 2, _ => by decide
  | 3, _ => by decide
  | n + 4, h => by omega
structure SCeOk (n : Nat) : Prop where
  out : ∀ (d : Nat) (v : Vec) (val : Value) (lo hi : Nat) (w : World), VecAt lo hi w d v val → hi ≤ w.heap.size → Small d v → IsV n v →
    Calls Try.prog 23 #[val] w fun e w' => e = .returned (.int .i64 (cellsV n v)) ∧ Below w.heap.size w w'
set_option maxHeartbeats 2000000 in
theorem sCeStep (n : Nat) (hn3 : n ≤ 3) (IH : ∀ m, n = m + 1 → SCeOk m) : SCeOk n := by
  refine ⟨fun d v val lo hi w hv hhi hsm hok => ?_⟩
  have hcap := Nat.le_trans (cells_cap n v hok) (capC3 n hn3)
  have hcell := cellsV_eq hok
  have hflat := hok.flat.len
  obtain ⟨kk, items, parts, names, cls, levels, code, env⟩ := v
  obtain ⟨d', ai, ci, ap, cp, an, cn, ac, cc, al, cl, ed, rfl, hI, hN, hC, hL, hP⟩ := vecAt_open hv
  subst ed
  have hsp : ∀ i, i < parts.length → Small d' (parts.getD i noV) := fun i hi => hsm.part hi
  obtain ⟨li, lp, ln, lc, ll, _⟩ := hsm
  have CLn := Lib.hid (fun (w1 : World) => specLen kk ai ap an ac al items.length ci parts.length cp names.length cn cls.length cc levels.length cl code env w1 li lp)
  have AP := Lib.hid (fun (k : Nat) (w1 : World) (hk : k < parts.length) (hb : Below w.heap.size w w1) => (hP.below hb hhi).at_ hk)
  have CIs := Lib.hid (fun (i : Nat) (w1 : World) (val : Value) (hi' : i < parts.length) (hb : Below w.heap.size w w1) (hv : VecAt lo hi w1 d' (parts.getD i noV) val) => (by
    obtain ⟨h0, hp⟩ := (isV_iff.1 hok).2 i hi'
    obtain ⟨m, rfl⟩ : ∃ m, n = m + 1 := ⟨n - 1, by omega⟩
    exact (IH m rfl).out d' _ val lo hi w1 hv (Nat.le_trans hhi hb.size) (hsp i hi') hp : Calls Try.prog 23 #[val] w1 fun e w' => e = .returned (.int .i64 (cellsV (n - 1) (parts.getD i noV))) ∧ Below w1.heap.size w1 w'))
  rw [hcell] at hcap ⊢
  have e1 : lengthV (.mk kk items parts names cls levels code env) = lenV kk items.length parts.length := rfl
  have e2 : partsV (.mk kk items parts names cls levels code env) = parts := rfl
  rw [e1, e2] at hcap ⊢
  obtain ⟨f, hf⟩ : ∃ f, (fun i => cellsV (n - 1) (parts.getD i noV)) = f := ⟨_, rfl⟩
  have hfk : ∀ k, cellsV (n - 1) (parts.getD k noV) = f k := fun k => by rw [← hf]
  rw [hf] at hcap ⊢
  simp only [hfk] at CIs
  clear hv hI hN hC hL hP hsp IH hok hcell hflat e1 e2 hf hfk
  obtain ⟨ni, hni⟩ : ∃ x, items.length = x := ⟨_, rfl⟩
  obtain ⟨np, hnp⟩ : ∃ x, parts.length = x := ⟨_, rfl⟩
  obtain ⟨nn, hnn⟩ : ∃ x, names.length = x := ⟨_, rfl⟩
  obtain ⟨nc, hnc⟩ : ∃ x, cls.length = x := ⟨_, rfl⟩
  obtain ⟨nl, hnl⟩ : ∃ x, levels.length = x := ⟨_, rfl⟩
  obtain ⟨L, hL⟩ : ∃ L, lenV kk ni np = L := ⟨_, rfl⟩
  rw [hni, hnp, hnn, hnc, hnl] at CLn
  rw [hnp] at AP CIs lp
  rw [hni, hnp] at hcap
  rw [hni, hnp, hnn, hnc, hnl]
  rw [hL] at CLn hcap ⊢
  clear hni hnp hnn hnc hnl hL li ln lc ll
  have HC := Lib.hid hcap
  clear hcap
  go_enter Try.func23, Try.ntmps23
  go_wp2_with fail
  with_reducible refine (CLn.out _).mono ?_
  rintro e w2 ⟨rfl, b2⟩
  have B2 := Lib.hid (below_then (below1 w _) b2)
  have K2 := Lib.hid (blk_below b2 (blk_new w _ rfl))
  clear b2
  obtain ⟨k0, k1, k2, k3, k4, k5, k6, k7⟩ := vec8 K2.out
  go_wp2_with fail
  go_loopw [3, 4] (fun c i wr => ∃ k : Nat, k ≤ np ∧ i = .int .i64 k ∧ c = .int .i64 ((L + sumN f k : Nat) : Int) ∧ Below w.heap.size w wr ∧ wr.heap[w.heap.size]? = w2.heap[w.heap.size]?) (fun _ i _ => np - (intOf i).toNat)
  case atStart => exact ⟨0, Nat.zero_le _, rfl, by simp [sumN], B2.out, rfl⟩
  case round =>
    obtain ⟨k, hk, rfl, rfl, hb, hblk⟩ := hrel
    have BB := Lib.hid hb
    have KB := Lib.hid (hblk.trans K2.out)
    clear hb hblk k0 k1 k2 k3 k4 k5 k6 k7
    obtain ⟨k0, k1, k2, k3, k4, k5, k6, k7⟩ := vec8 KB.out
    by_cases hlt : k < np
    · obtain ⟨b, off, u0, u1, u2, u3, u4, u5, u6, u7, rfl, hbB, hv, c0, c1, c2, c3, c4, c5, c6, c7⟩ := AP.out _ _ hlt BB.out
      have C := Lib.hid (CIs.out k wr _ hlt BB.out hv)
      clear hv
      have hs1 := sumN_at f hlt
      have hs2 := HC.out
      go_wp2_with fail
      with_reducible refine C.out.mono ?_
      rintro e w4 ⟨rfl, b4⟩
      have B4 := Lib.hid (below_then BB.out b4)
      have K4 := Lib.hid ((blk_below b4 KB.out).trans K2.out.symm)
      clear b4
      have hs3 : (0 : Int) ≤ ((L + sumN f k : Nat) : Int) + (f k : Int) := by omega
      have hs4 : ((L + sumN f k : Nat) : Int) + (f k : Int) ≤ 3000000 := by omega
      go_wp2
      go_roundw
      case rel => exact ⟨k + 1, by omega, by go_num, by simp only [sumN]; congr 1; omega, B4.out, K4.out⟩
      case measure => simp [intOf]; omega
    · obtain rfl : k = np := by omega
      go_wp2
      go_ret
      exact ⟨rfl, BB.out⟩
theorem sCeAll : ∀ n, n ≤ 3 → SCeOk n
  | 0, h => sCeStep 0 h (fun m e => by omega)
  | n + 1, h => sCeStep (n + 1) h (fun m e => (Nat.succ.inj e) ▸ sCeAll n (by omega))
/-- The number of cells of a valid vector that is not too large, else 0. -/
noncomputable def cntV (n : Nat) (v : Vec) : Int := match bB (CountOk n v) with | true => cellsV n v | false => 0
theorem cnt_yes {n : Nat} {v : Vec} (h : CountOk n v) : cntV n v = cellsV n v := by unfold cntV; rw [bB_yes h]
theorem cnt_no {n : Nat} {v : Vec} (h : ¬ CountOk n v) : cntV n v = 0 := by unfold cntV; rw [bB_no h]
noncomputable def lenOkV (v : Vec) : Int := match bB (ValidV v) with | true => lengthV v | false => 0
theorem lenOk_yes {v : Vec} (h : ValidV v) : lenOkV v = lengthV v := by unfold lenOkV; rw [bB_yes h]
theorem lenOk_no {v : Vec} (h : ¬ ValidV v) : lenOkV v = 0 := by unfold lenOkV; rw [bB_no h]
set_option maxHeartbeats 1000000 in
theorem specIsVector (d : Nat) (v : Vec) (val : Value) (lo hi : Nat) (w : World) (hv : VecAt lo hi w d v val) (hhi : hi ≤ w.heap.size) (hsm : Small d v) :
    Calls Try.prog 12 #[val] w fun e w' => e = .returned (.bool (bB (ValidV v))) ∧ Below w.heap.size w w' := by
  have C1 := Lib.hid (fun (w1 : World) (hb : Below w.heap.size w w1) => (show Calls Try.prog 22 #[val, .int .i64 3] w1 (fun e w' => e = .returned (.bool (bB (IsV 3 v))) ∧ Below w1.heap.size w1 w') from (sIsAll 3 (Nat.le_refl _)).out d v val lo hi w1 (hv.below hb hhi) (Nat.le_trans hhi hb.size) hsm))
  have C2 := Lib.hid (fun (hok : IsV 3 v) (w1 : World) (hb : Below w.heap.size w w1) => (sCeAll 3 (Nat.le_refl _)).out d v val lo hi w1 (hv.below hb hhi) (Nat.le_trans hhi hb.size) hsm hok)
  have XV := Lib.hid (show ValidV v ↔ IsV 3 v ∧ cellsV 3 v ≤ 200 from Iff.rfl)
  obtain ⟨VV, hVV⟩ : ∃ VV, v = VV := ⟨_, rfl⟩
  have HV := Lib.hid hVV
  rw [hVV] at C1 C2 XV ⊢
  clear hVV
  obtain ⟨kk, items, parts, names, cls, levels, code, env⟩ := v
  obtain ⟨d', ai, ci, ap, cp, an, cn, ac, cc, al, cl, ed, rfl, hI, hN, hC, hL, hP⟩ := vecAt_open hv
  clear hv hI hN hC hL hP hsm HV
  go_enter Try.func12, Try.ntmps12
  go_wp2_with fail
  have B0 := Lib.hid (below1 w (.cells #[.int .i64 kk, .slice ai items.length ci, .slice ap parts.length cp, .slice an names.length cn, .slice ac cls.length cc, .slice al levels.length cl, .int .i64 code, .int .i64 env] 32))
  have K0 := Lib.hid (blk_new w (.cells #[.int .i64 kk, .slice ai items.length ci, .slice ap parts.length cp, .slice an names.length cn, .slice ac cls.length cc, .slice al levels.length cl, .int .i64 code, .int .i64 env] 32) rfl)
  with_reducible refine (C1.out _ B0.out).mono ?_
  rintro e w1 ⟨rfl, b⟩
  have B1 := Lib.hid (below_then B0.out b)
  have K1 := Lib.hid (blk_below b K0.out)
  clear b
  by_cases h : IsV 3 VV
  · rw [bB_yes h]
    have C := Lib.hid (C2.out h)
    obtain ⟨x, hx⟩ : ∃ x, cellsV 3 VV = x := ⟨_, rfl⟩
    have XX := Lib.hid (show ValidV VV ↔ x ≤ 200 from ⟨fun h' => hx ▸ (XV.out.1 h').2, fun h' => XV.out.2 ⟨h, hx.symm ▸ h'⟩⟩)
    rw [hx] at C
    clear hx h C1 C2
    obtain ⟨k0, k1, k2, k3, k4, k5, k6, k7⟩ := vec8 K1.out
    go_wp2_with fail
    with_reducible refine (C.out _ B1.out).mono ?_
    rintro e w2 ⟨rfl, b⟩
    have B2 := Lib.hid (below_then B1.out b)
    clear b k0 k1 k2 k3 k4 k5 k6 k7
    by_cases h2 : x ≤ 200
    · have X := Lib.hid (XX.out.2 h2)
      go_wp2
      go_ret
      exact ⟨ret_bB (by rw [bB_yes X.out] <;> (first | rfl | exact decide_eq_true (by omega) | (simp; omega))), B2.out⟩
    · have X := Lib.hid (fun h' => h2 (XX.out.1 h') : ¬ ValidV VV)
      go_wp2
      go_ret
      exact ⟨ret_bB (by rw [bB_no X.out] <;> (first | rfl | exact decide_eq_false (by omega) | (simp; omega))), B2.out⟩
  · have X := Lib.hid (fun h' => h (XV.out.1 h').1 : ¬ ValidV VV)
    rw [bB_no h]
    clear h
    go_wp2
    go_ret
    exact ⟨ret_no X.out, B1.out⟩
end Go.Proofs.Ytddebgmjolojeaa
