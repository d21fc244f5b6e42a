/- Equality of vectors: what the reference answers. -/
import Derived.Test.YtemkppdinmfaoaaRows
import Derived.Test.YtemkppdinmfaoaaVecSame
import Derived.Test.YtemkppdinmfaoaaVecCnt
import Derived.WalkKit
import Derived.Lib.Hide
import Derived.Deep.RegionHeld3
import Derived.Deep.QuietTactic
import Derived.BigQuiet
namespace Go.Proofs.Ytemkppdinmfaoaa
open Go.RowKit
set_option maxRecDepth 100000
set_option linter.unusedVariables false

structure SSOk (d : Nat) : Prop where
  out : ∀ (a b : Vec) (x y : Value) (d2 lo hi lo' hi' : Nat) (w : World), VecAt lo hi w d a x → hi ≤ w.heap.size → VecAt lo' hi' w d2 b y → hi' ≤ w.heap.size → Small d a → Small d2 b →
    Calls Try.prog 83 #[x, y] w fun e w' => e = .returned (.bool (bB (a = b))) ∧ Below w.heap.size w w'
set_option maxHeartbeats 8000000 in
theorem ssStep (d : Nat) (IH : ∀ m, d = m + 1 → SSOk m) : SSOk d := by
  refine ⟨fun a b x y d2 lo hi lo' hi' w hv hhi hv' hhi' hsm hsm' => ?_⟩
  obtain ⟨kk, items, parts, names, cls, levels, code, env⟩ := a
  obtain ⟨kk', items', parts', names', cls', levels', code', env'⟩ := b
  obtain ⟨d', ai, ci, ap, cp, an, cn, ac, cc, al, cl, ed, rfl, hI, hN, hC, hL, hP⟩ := vecAt_open hv
  obtain ⟨e', ai', ci', ap', cp', an', cn', ac', cc', al', cl', ed', rfl, hI', hN', hC', hL', hP'⟩ := vecAt_open hv'
  subst ed ed'
  have hsp : ∀ i, i < parts.length → Small d' (parts.getD i noV) := fun i hi => Small.part hsm hi
  have hsp' : ∀ i, i < parts'.length → Small e' (parts'.getD i noV) := fun i hi => Small.part hsm' hi
  obtain ⟨li, lp, ln, lc, ll, _⟩ := hsm
  obtain ⟨li', lp', ln', lc', ll', _⟩ := hsm'
  have CN := Lib.hid (fun (w1 : World) (hb : Below w.heap.size w w1) => specEqTx an an' names.length names'.length cn cn' (txtS names) (txtS names') hi hi' w1 (hN.below hb hhi).strs (hN'.below hb hhi').strs ln ln')
  have CC := Lib.hid (fun (w1 : World) (hb : Below w.heap.size w w1) => specEqTx ac ac' cls.length cls'.length cc cc' (txtS cls) (txtS cls') hi hi' w1 (hC.below hb hhi).strs (hC'.below hb hhi').strs lc lc')
  have CL := Lib.hid (fun (w1 : World) (hb : Below w.heap.size w w1) => specEqTx al al' levels.length levels'.length cl cl' (txtS levels) (txtS levels') hi hi' w1 (hL.below hb hhi).strs (hL'.below hb hhi').strs ll ll')
  have AI := Lib.hid (fun (k : Nat) (w1 : World) (hk : k < items.length) (hb : Below w.heap.size w w1) => (hI.below hb hhi).at_ hk)
  have AI' := Lib.hid (fun (k : Nat) (w1 : World) (hk : k < items'.length) (hb : Below w.heap.size w w1) => (hI'.below hb hhi').at_ hk)
  have AP := Lib.hid (fun (k : Nat) (w1 : World) (hk : k < parts.length) (hb : Below w.heap.size w w1) => (hP.below hb hhi).at_ hk)
  have AP' := Lib.hid (fun (k : Nat) (w1 : World) (hk : k < parts'.length) (hb : Below w.heap.size w w1) => (hP'.below hb hhi').at_ hk)
  have CPP := (fun (he : parts.length = parts'.length) (k : Nat) (w1 : World) (x y : Value) (hk : k < parts.length) (hb : Below w.heap.size w w1) (hv : VecAt lo hi w1 d' (parts.getD k noV) x) (hv' : VecAt lo' hi' w1 e' (parts'.getD k noV) y) => (IH d' rfl).out _ _ x y e' lo hi lo' hi' w1 hv (Nat.le_trans hhi hb.size) hv' (Nat.le_trans hhi' hb.size) (hsp k hk) (hsp' k (by omega)))
  have XV := Lib.hid (show (Vec.mk kk items parts names cls levels code env = Vec.mk kk' items' parts' names' cls' levels' code' env') ↔ (kk = kk' ∧ EqIt (fun i => items.getD i noI) (fun i => items'.getD i noI) items.length items'.length ∧ (parts.length = parts'.length ∧ ∀ i, i < parts.length → parts.getD i noV = parts'.getD i noV) ∧ EqTx (txtS names) (txtS names') names.length names'.length ∧ EqTx (txtS cls) (txtS cls') cls.length cls'.length ∧ EqTx (txtS levels) (txtS levels') levels.length levels'.length ∧ code = code' ∧ env = env') from by
    rw [Vec.mk.injEq, eqIt_list, eq_getD noV parts parts', eqTx_list names names', eqTx_list cls cls', eqTx_list levels levels'])
  clear hv hv' hI hN hC hL hP hI' hN' hC' hL' hP' hsp hsp' IH
  obtain ⟨VV, hVV⟩ : ∃ V, Vec.mk kk items parts names cls levels code env = V := ⟨_, rfl⟩
  obtain ⟨VV', hVV'⟩ : ∃ V, Vec.mk kk' items' parts' names' cls' levels' code' env' = V := ⟨_, rfl⟩
  rw [hVV, hVV'] at XV ⊢
  clear hVV hVV'
  obtain ⟨ni, hni⟩ : ∃ x, items.length = x := ⟨_, rfl⟩
  obtain ⟨ni', hni'⟩ : ∃ x, items'.length = x := ⟨_, rfl⟩
  obtain ⟨np, hnp⟩ : ∃ x, parts.length = x := ⟨_, rfl⟩
  obtain ⟨np', hnp'⟩ : ∃ x, parts'.length = x := ⟨_, rfl⟩
  obtain ⟨nn, hnn⟩ : ∃ x, names.length = x := ⟨_, rfl⟩
  obtain ⟨nn', hnn'⟩ : ∃ x, names'.length = x := ⟨_, rfl⟩
  obtain ⟨nc, hnc⟩ : ∃ x, cls.length = x := ⟨_, rfl⟩
  obtain ⟨nc', hnc'⟩ : ∃ x, cls'.length = x := ⟨_, rfl⟩
  obtain ⟨nl, hnl⟩ : ∃ x, levels.length = x := ⟨_, rfl⟩
  obtain ⟨nl', hnl'⟩ : ∃ x, levels'.length = x := ⟨_, rfl⟩
  rw [hni] at AI XV li
  rw [hni'] at AI' XV li'
  rw [hnp] at AP XV CPP lp
  rw [hnp'] at AP' XV CPP lp'
  rw [hnn] at CN XV ln
  rw [hnn'] at CN XV ln'
  rw [hnc] at CC XV lc
  rw [hnc'] at CC XV lc'
  rw [hnl] at CL XV ll
  rw [hnl'] at CL XV ll'
  rw [hni, hnp, hnn, hnc, hnl, hni', hnp', hnn', hnc', hnl']
  have CP := Lib.hid CPP
  clear hni hnp hnn hnc hnl hni' hnp' hnn' hnc' hnl' CPP
  by_cases z0 : kk = kk'
  · subst z0
    by_cases z1 : ni = ni'
    · subst z1
      by_cases z2 : np = np'
      · subst z2
        by_cases z3 : code = code'
        · subst z3
          by_cases z4 : env = env'
          · subst z4
            have CPk := Lib.hid (CP.out rfl)
            go_enter Try.func83, Try.ntmps83
            go_wp2_with fail
            have B0 := Lib.hid (below2 w (.cells #[.int .i64 kk, .slice ai ni ci, .slice ap np cp, .slice an nn cn, .slice ac nc cc, .slice al nl cl, .int .i64 code, .int .i64 env] 32) (.cells #[.int .i64 kk, .slice ai' ni ci', .slice ap' np cp', .slice an' nn' cn', .slice ac' nc' cc', .slice al' nl' cl', .int .i64 code, .int .i64 env] 32))
            have KA0 := Lib.hid (blk_old (p := .cells #[.int .i64 kk, .slice ai' ni ci', .slice ap' np cp', .slice an' nn' cn', .slice ac' nc' cc', .slice al' nl' cl', .int .i64 code, .int .i64 env] 32) (blk_new w (.cells #[.int .i64 kk, .slice ai ni ci, .slice ap np cp, .slice an nn cn, .slice ac nc cc, .slice al nl cl, .int .i64 code, .int .i64 env] 32) rfl))
            have KB0 := Lib.hid (blk_new (w.alloc (.cells #[.int .i64 kk, .slice ai ni ci, .slice ap np cp, .slice an nn cn, .slice ac nc cc, .slice al nl cl, .int .i64 code, .int .i64 env] 32)) (.cells #[.int .i64 kk, .slice ai' ni ci', .slice ap' np cp', .slice an' nn' cn', .slice ac' nc' cc', .slice al' nl' cl', .int .i64 code, .int .i64 env] 32) (show w.heap.size + 1 = _ by simp))
            with_reducible refine (CN.out _ B0.out).mono ?_
            rintro e w1 ⟨rfl, b⟩
            have B1 := Lib.hid (below_then B0.out b)
            have KA1 := Lib.hid (blk_below b KA0.out)
            have KB1 := Lib.hid (blk_below b KB0.out)
            clear b
            obtain ⟨k0, k1, k2, k3, k4, k5, k6, k7⟩ := vec8 KA1.out
            obtain ⟨l0, l1, l2, l3, l4, l5, l6, l7⟩ := vec8 KB1.out
            by_cases q1 : EqTx (txtS names) (txtS names') nn nn'
            · rw [bB_yes q1]
              have Q1 := Lib.hid q1
              clear q1
              go_wp2_with fail
              with_reducible refine (CC.out _ B1.out).mono ?_
              rintro e w2 ⟨rfl, b⟩
              have B2 := Lib.hid (below_then B1.out b)
              have KA2 := Lib.hid (blk_below b KA1.out)
              have KB2 := Lib.hid (blk_below b KB1.out)
              clear b k0 k1 k2 k3 k4 k5 k6 k7 l0 l1 l2 l3 l4 l5 l6 l7
              obtain ⟨k0, k1, k2, k3, k4, k5, k6, k7⟩ := vec8 KA2.out
              obtain ⟨l0, l1, l2, l3, l4, l5, l6, l7⟩ := vec8 KB2.out
              by_cases q2 : EqTx (txtS cls) (txtS cls') nc nc'
              · rw [bB_yes q2]
                have Q2 := Lib.hid q2
                clear q2
                go_wp2_with fail
                with_reducible refine (CL.out _ B2.out).mono ?_
                rintro e w3 ⟨rfl, b⟩
                have B3 := Lib.hid (below_then B2.out b)
                have KA3 := Lib.hid (blk_below b KA2.out)
                have KB3 := Lib.hid (blk_below b KB2.out)
                clear b k0 k1 k2 k3 k4 k5 k6 k7 l0 l1 l2 l3 l4 l5 l6 l7
                obtain ⟨k0, k1, k2, k3, k4, k5, k6, k7⟩ := vec8 KA3.out
                obtain ⟨l0, l1, l2, l3, l4, l5, l6, l7⟩ := vec8 KB3.out
                by_cases q3 : EqTx (txtS levels) (txtS levels') nl nl'
                · rw [bB_yes q3]
                  have Q3 := Lib.hid q3
                  clear q3

                  go_wp2_with fail
                  go_loopw [5] (fun i wr => ∃ k : Nat, k ≤ ni ∧ i = .int .i64 k ∧ (∀ j, j < k → items.getD j noI = items'.getD j noI) ∧ Below w.heap.size w wr ∧ wr.heap[w.heap.size]? = w3.heap[w.heap.size]? ∧ wr.heap[w.heap.size + 1]? = w3.heap[w.heap.size + 1]?) (fun i _ => ni - (intOf i).toNat)
                  case atStart => exact ⟨0, Nat.zero_le _, rfl, fun _ h => absurd h (Nat.not_lt_zero _), B3.out, rfl, rfl⟩
                  case round =>
                    obtain ⟨k, hk, rfl, hit, hb, hwa, hwb⟩ := hrel
                    have IT := Lib.hid hit
                    have BB := Lib.hid hb
                    have KA := Lib.hid (hwa.trans KA3.out)
                    have KB := Lib.hid (hwb.trans KB3.out)
                    have WA := Lib.hid hwa
                    have WB := Lib.hid hwb
                    clear hit hb hwa hwb k0 k1 k2 k3 k4 k5 k6 k7 l0 l1 l2 l3 l4 l5 l6 l7
                    obtain ⟨k0, k1, k2, k3, k4, k5, k6, k7⟩ := vec8 KA.out
                    obtain ⟨l0, l1, l2, l3, l4, l5, l6, l7⟩ := vec8 KB.out
                    by_cases hlt : k < ni
                    · obtain ⟨ba, oa, rfl, _, c0, c1, c2⟩ := AI.out _ _ hlt BB.out
                      obtain ⟨bb, ob, rfl, _, d0, d1, d2⟩ := AI'.out _ _ hlt BB.out
                      unfold txtI at c2 d2
                      obtain ⟨⟨xn, xd, xt⟩, hx⟩ : ∃ x : It, items.getD k noI = x := ⟨_, rfl⟩
                      obtain ⟨⟨yn, yd, yt⟩, hy⟩ : ∃ x : It, items'.getD k noI = x := ⟨_, rfl⟩
                      rw [hx] at c0 c1 c2
                      rw [hy] at d0 d1 d2
                      simp only at c0 c1 c2 d0 d1 d2
                      have EX := Lib.hid hx
                      have EY := Lib.hid hy
                      clear hx hy
                      have hlt' : (k : Int) < (ni : Int) := by omega
                      by_cases h0 : xn = yn
                      · subst h0
                        by_cases h1 : xd = yd
                        · subst h1
                          by_cases h2 : xt = yt
                          · subst h2
                            have HN := Lib.hid (show ∀ j, j < k + 1 → items.getD j noI = items'.getD j noI from fun j hj => by
                              by_cases e : j = k
                              · subst e; rw [EX.out, EY.out]
                              · exact IT.out j (by omega))
                            go_wp2
                            go_quiet (fail)
                            have BQ := Lib.hid (below_drewN' BB.out nq)
                            go_wp2
                            go_roundw
                            case rel => exact ⟨k + 1, by omega, by go_num, HN.out, BQ.out, WA.out, WB.out⟩
                            case measure => simp [intOf]; omega
                          · have hxy : (⟨xn, xd, xt⟩ : It) ≠ ⟨xn, xd, yt⟩ := fun e => h2 (congrArg It.t e)
                            have hb1 := neB h2
                            clear h2
                            have X := Lib.hid (fun h => hxy (by have := (XV.out.1 h).2.1.2 k hlt; simp only [EX.out, EY.out] at this; exact this) : ¬ VV = VV')
                            clear hxy
                            go_wp2
                            go_quiet (fail)
                            go_wp2
                            go_ret
                            exact ⟨ret_no X.out, below_drewN' BB.out _⟩
                        · have hxy : (⟨xn, xd, xt⟩ : It) ≠ ⟨xn, yd, yt⟩ := fun e => h1 (congrArg It.d e)
                          have X := Lib.hid (fun h => hxy (by have := (XV.out.1 h).2.1.2 k hlt; simp only [EX.out, EY.out] at this; exact this) : ¬ VV = VV')
                          clear hxy
                          go_wp2
                          go_quiet (fail)
                          go_wp2
                          go_ret
                          exact ⟨ret_no X.out, below_drewN' BB.out _⟩
                      · have hxy : (⟨xn, xd, xt⟩ : It) ≠ ⟨yn, yd, yt⟩ := fun e => h0 (congrArg It.n e)
                        have X := Lib.hid (fun h => hxy (by have := (XV.out.1 h).2.1.2 k hlt; simp only [EX.out, EY.out] at this; exact this) : ¬ VV = VV')
                        clear hxy
                        go_wp2
                        go_quiet (fail)
                        go_wp2
                        go_ret
                        exact ⟨ret_no X.out, below_drewN' BB.out _⟩
                    · obtain rfl : k = ni := by omega
                      go_wp2_with fail
                      go_loopw [6] (fun i wr => ∃ k : Nat, k ≤ np ∧ i = .int .i64 k ∧ (∀ j, j < k → parts.getD j noV = parts'.getD j noV) ∧ Below w.heap.size w wr ∧ wr.heap[w.heap.size]? = w3.heap[w.heap.size]? ∧ wr.heap[w.heap.size + 1]? = w3.heap[w.heap.size + 1]?) (fun i _ => np - (intOf i).toNat)
                      case atStart => exact ⟨0, Nat.zero_le _, rfl, fun _ h => absurd h (Nat.not_lt_zero _), BB.out, WA.out, WB.out⟩
                      case round =>
                        clear BB WA WB KA KB k0 k1 k2 k3 k4 k5 k6 k7 l0 l1 l2 l3 l4 l5 l6 l7
                        obtain ⟨k, hk, rfl, hit, hb, hwa, hwb⟩ := hrel
                        have PT := Lib.hid hit
                        have BB := Lib.hid hb
                        have KA := Lib.hid (hwa.trans KA3.out)
                        have KB := Lib.hid (hwb.trans KB3.out)
                        have WA := Lib.hid hwa
                        have WB := Lib.hid hwb
                        clear hit hb hwa hwb
                        obtain ⟨k0, k1, k2, k3, k4, k5, k6, k7⟩ := vec8 KA.out
                        obtain ⟨l0, l1, l2, l3, l4, l5, l6, l7⟩ := vec8 KB.out
                        by_cases hlt : k < np
                        · obtain ⟨b, off, u0, u1, u2, u3, u4, u5, u6, u7, rfl, hbB, hv, c0, c1, c2, c3, c4, c5, c6, c7⟩ := AP.out _ _ hlt BB.out
                          obtain ⟨b', off', x0, x1, x2, x3, x4, x5, x6, x7, rfl, hbB', hv', d0, d1, d2, d3, d4, d5, d6, d7⟩ := AP'.out _ _ hlt BB.out
                          have HV := Lib.hid hv
                          have HV' := Lib.hid hv'
                          clear hv hv'
                          have hlt' : (k : Int) < (np : Int) := by omega
                          have HQ := Lib.hid (fun (w' : World) (hb : Below wr.heap.size wr w') => (⟨hb, bcl hb k2, bcl hb l2, bcl hb c0, bcl hb c1, bcl hb c2, bcl hb c3, bcl hb c4, bcl hb c5, bcl hb c6, bcl hb c7, bcl hb d0, bcl hb d1, bcl hb d2, bcl hb d3, bcl hb d4, bcl hb d5, bcl hb d6, bcl hb d7⟩ : (Below wr.heap.size wr w' ∧ w'.cell? ⟨w.heap.size, 2, none⟩ = some (.slice (some ⟨b, off, none⟩) np cp) ∧ w'.cell? ⟨w.heap.size + 1, 2, none⟩ = some (.slice (some ⟨b', off', none⟩) np cp') ∧ w'.cell? ⟨b, off + k * 8, none⟩ = some u0 ∧ w'.cell? ⟨b, off + k * 8 + 1, none⟩ = some u1 ∧ w'.cell? ⟨b, off + k * 8 + 2, none⟩ = some u2 ∧ w'.cell? ⟨b, off + k * 8 + 3, none⟩ = some u3 ∧ w'.cell? ⟨b, off + k * 8 + 4, none⟩ = some u4 ∧ w'.cell? ⟨b, off + k * 8 + 5, none⟩ = some u5 ∧ w'.cell? ⟨b, off + k * 8 + 6, none⟩ = some u6 ∧ w'.cell? ⟨b, off + k * 8 + 7, none⟩ = some u7 ∧ w'.cell? ⟨b', off' + k * 8, none⟩ = some x0 ∧ w'.cell? ⟨b', off' + k * 8 + 1, none⟩ = some x1 ∧ w'.cell? ⟨b', off' + k * 8 + 2, none⟩ = some x2 ∧ w'.cell? ⟨b', off' + k * 8 + 3, none⟩ = some x3 ∧ w'.cell? ⟨b', off' + k * 8 + 4, none⟩ = some x4 ∧ w'.cell? ⟨b', off' + k * 8 + 5, none⟩ = some x5 ∧ w'.cell? ⟨b', off' + k * 8 + 6, none⟩ = some x6 ∧ w'.cell? ⟨b', off' + k * 8 + 7, none⟩ = some x7)))
                          have CS := Lib.hid (fun (w' : World) (hb : Below wr.heap.size wr w') => CPk.out k w' _ _ hlt (below_then BB.out hb) (HV.out.kept (Kept.of_below hb (Nat.le_trans hhi BB.out.size))) (HV'.out.kept (Kept.of_below hb (Nat.le_trans hhi' BB.out.size))))
                          have KX := Lib.hid (fun (w' : World) (hb : Below wr.heap.size wr w') => (⟨(blk_below hb KA.out).trans KA3.out.symm, (blk_below hb KB.out).trans KB3.out.symm⟩ : w'.heap[w.heap.size]? = w3.heap[w.heap.size]? ∧ w'.heap[w.heap.size + 1]? = w3.heap[w.heap.size + 1]?))
                          clear c0 c1 c2 c3 c4 c5 c6 c7 d0 d1 d2 d3 d4 d5 d6 d7 k0 k1 k3 k4 k5 k6 k7 l0 l1 l3 l4 l5 l6 l7
                          by_cases hp : parts.getD k noV = parts'.getD k noV
                          · rw [bB_yes hp] at CS
                            have HN := Lib.hid (show ∀ j, j < k + 1 → parts.getD j noV = parts'.getD j noV from fun j hj => by
                              by_cases e : j = k
                              · subst e; exact hp
                              · exact PT.out j (by omega))
                            clear hp
                            go_wp2
                            go_region_held3 (fun w' => Below wr.heap.size wr w' ∧ w'.cell? ⟨w.heap.size, 2, none⟩ = some (.slice (some ⟨b, off, none⟩) np cp) ∧ w'.cell? ⟨w.heap.size + 1, 2, none⟩ = some (.slice (some ⟨b', off', none⟩) np cp') ∧ w'.cell? ⟨b, off + k * 8, none⟩ = some u0 ∧ w'.cell? ⟨b, off + k * 8 + 1, none⟩ = some u1 ∧ w'.cell? ⟨b, off + k * 8 + 2, none⟩ = some u2 ∧ w'.cell? ⟨b, off + k * 8 + 3, none⟩ = some u3 ∧ w'.cell? ⟨b, off + k * 8 + 4, none⟩ = some u4 ∧ w'.cell? ⟨b, off + k * 8 + 5, none⟩ = some u5 ∧ w'.cell? ⟨b, off + k * 8 + 6, none⟩ = some u6 ∧ w'.cell? ⟨b, off + k * 8 + 7, none⟩ = some u7 ∧ w'.cell? ⟨b', off' + k * 8, none⟩ = some x0 ∧ w'.cell? ⟨b', off' + k * 8 + 1, none⟩ = some x1 ∧ w'.cell? ⟨b', off' + k * 8 + 2, none⟩ = some x2 ∧ w'.cell? ⟨b', off' + k * 8 + 3, none⟩ = some x3 ∧ w'.cell? ⟨b', off' + k * 8 + 4, none⟩ = some x4 ∧ w'.cell? ⟨b', off' + k * 8 + 5, none⟩ = some x5 ∧ w'.cell? ⟨b', off' + k * 8 + 6, none⟩ = some x6 ∧ w'.cell? ⟨b', off' + k * 8 + 7, none⟩ = some x7) (first | exact HQ.out _ (below_drew' (Below.refl _ _)) | exact HQ.out _ (below_then (And.left (by assumption)) (by assumption))) (first | (go_at_call 83; refine (CS.out _ (And.left (by assumption))).mono ?_; rintro e w1 ⟨rfl, b1⟩))
                            have BL := And.left ‹Below wr.heap.size wr _ ∧ _›
                            have B1 := Lib.hid (below_then BB.out BL)
                            have K1 := Lib.hid (KX.out _ BL)
                            clear BL
                            go_wp2
                            go_roundw
                            case rel => first | exact ⟨k + 1, by omega, by go_num, HN.out, B1.out, K1.out.1, K1.out.2⟩ | ((repeat apply Exists.intro); exact ⟨⟨k + 1, by omega, by go_num, HN.out, B1.out, K1.out.1, K1.out.2⟩, rfl⟩)
                            case measure => simp [intOf]; omega
                          · rw [bB_no hp] at CS
                            have X := Lib.hid (fun h => hp ((XV.out.1 h).2.2.1.2 k hlt) : ¬ VV = VV')
                            clear hp
                            go_wp2
                            go_region_held3 (fun w' => Below wr.heap.size wr w' ∧ w'.cell? ⟨w.heap.size, 2, none⟩ = some (.slice (some ⟨b, off, none⟩) np cp) ∧ w'.cell? ⟨w.heap.size + 1, 2, none⟩ = some (.slice (some ⟨b', off', none⟩) np cp') ∧ w'.cell? ⟨b, off + k * 8, none⟩ = some u0 ∧ w'.cell? ⟨b, off + k * 8 + 1, none⟩ = some u1 ∧ w'.cell? ⟨b, off + k * 8 + 2, none⟩ = some u2 ∧ w'.cell? ⟨b, off + k * 8 + 3, none⟩ = some u3 ∧ w'.cell? ⟨b, off + k * 8 + 4, none⟩ = some u4 ∧ w'.cell? ⟨b, off + k * 8 + 5, none⟩ = some u5 ∧ w'.cell? ⟨b, off + k * 8 + 6, none⟩ = some u6 ∧ w'.cell? ⟨b, off + k * 8 + 7, none⟩ = some u7 ∧ w'.cell? ⟨b', off' + k * 8, none⟩ = some x0 ∧ w'.cell? ⟨b', off' + k * 8 + 1, none⟩ = some x1 ∧ w'.cell? ⟨b', off' + k * 8 + 2, none⟩ = some x2 ∧ w'.cell? ⟨b', off' + k * 8 + 3, none⟩ = some x3 ∧ w'.cell? ⟨b', off' + k * 8 + 4, none⟩ = some x4 ∧ w'.cell? ⟨b', off' + k * 8 + 5, none⟩ = some x5 ∧ w'.cell? ⟨b', off' + k * 8 + 6, none⟩ = some x6 ∧ w'.cell? ⟨b', off' + k * 8 + 7, none⟩ = some x7) (first | exact HQ.out _ (below_drew' (Below.refl _ _)) | exact HQ.out _ (below_then (And.left (by assumption)) (by assumption))) (first | (go_at_call 83; refine (CS.out _ (And.left (by assumption))).mono ?_; rintro e w1 ⟨rfl, b1⟩))
                            have B1 := Lib.hid (below_then BB.out (And.left ‹Below wr.heap.size wr _ ∧ _›))
                            go_wp2
                            go_ret
                            exact ⟨ret_no X.out, B1.out⟩
                        · obtain rfl : k = np := by omega
                          have X := Lib.hid (show VV = VV' from XV.out.2 ⟨by first | rfl | trivial, ⟨rfl, IT.out⟩, ⟨by first | rfl | trivial, PT.out⟩, Q1.out, Q2.out, Q3.out, by first | rfl | trivial, by first | rfl | trivial⟩)
                          go_wp2
                          go_ret
                          exact ⟨ret_yes X.out, BB.out⟩
                · have X := Lib.hid (fun h => q3 (XV.out.1 h).2.2.2.2.2.1 : ¬ VV = VV')
                  rw [bB_no q3]
                  clear q3
                  go_wp2
                  go_ret
                  exact ⟨ret_no X.out, B3.out⟩
              · have X := Lib.hid (fun h => q2 (XV.out.1 h).2.2.2.2.1 : ¬ VV = VV')
                rw [bB_no q2]
                clear q2
                go_wp2
                go_ret
                exact ⟨ret_no X.out, B2.out⟩
            · have X := Lib.hid (fun h => q1 (XV.out.1 h).2.2.2.1 : ¬ VV = VV')
              rw [bB_no q1]
              clear q1
              go_wp2
              go_ret
              exact ⟨ret_no X.out, B1.out⟩
          · have X := Lib.hid (fun h => z4 (XV.out.1 h).2.2.2.2.2.2.2 : ¬ VV = VV')
            go_enter Try.func83, Try.ntmps83
            go_wp2
            go_ret
            exact ⟨ret_no X.out, below2 _ _ _⟩
        · have X := Lib.hid (fun h => z3 (XV.out.1 h).2.2.2.2.2.2.1 : ¬ VV = VV')
          go_enter Try.func83, Try.ntmps83
          go_wp2
          go_ret
          exact ⟨ret_no X.out, below2 _ _ _⟩
      · have z2' : ¬ (np : Int) = (np' : Int) := by omega
        have X := Lib.hid (fun h => z2 (XV.out.1 h).2.2.1.1 : ¬ VV = VV')
        go_enter Try.func83, Try.ntmps83
        go_wp2
        go_ret
        exact ⟨ret_no X.out, below2 _ _ _⟩
    · have z1' : ¬ (ni : Int) = (ni' : Int) := by omega
      have X := Lib.hid (fun h => z1 (XV.out.1 h).2.1.1 : ¬ VV = VV')
      go_enter Try.func83, Try.ntmps83
      go_wp2
      go_ret
      exact ⟨ret_no X.out, below2 _ _ _⟩
  · have X := Lib.hid (fun h => z0 (XV.out.1 h).1 : ¬ VV = VV')
    go_enter Try.func83, Try.ntmps83
    go_wp2
    go_ret
    exact ⟨ret_no X.out, below2 _ _ _⟩
theorem ssAll : ∀ d, SSOk d
  | 0 => ssStep 0 (fun m e => by omega)
  | d + 1 => ssStep (d + 1) (fun m e => (Nat.succ.inj e) ▸ ssAll d)
end Go.Proofs.Ytemkppdinmfaoaa
