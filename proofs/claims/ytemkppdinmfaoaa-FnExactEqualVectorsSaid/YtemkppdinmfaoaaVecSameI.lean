/- Equality of vectors: what the program answers. -/
import Derived.Test.YtemkppdinmfaoaaRows
import Derived.Test.YtemkppdinmfaoaaVecSame
import Derived.Test.YtemkppdinmfaoaaVecSameS
import Derived.Test.YtemkppdinmfaoaaVecCntI
import Derived.WalkKit
import Derived.Lib.Hide
namespace Go.Proofs.Ytemkppdinmfaoaa
open Go.RowKit
set_option maxRecDepth 100000
set_option linter.unusedVariables false

structure HEOk (d : Nat) : Prop where
  out : ∀ (a b : Vec) (x y : Value) (d2 lo hi lo' hi' : Nat) (w : World), VecAt lo hi w d a x → hi ≤ w.heap.size → VecAt lo' hi' w d2 b y → hi' ≤ w.heap.size → Small d a → Small d2 b →
    Calls Try.prog 84 #[x, y] w fun e w' => e = .returned (.bool (bB (a = b))) ∧ Below w.heap.size w w'
def EqPs (parts parts' : List Vec) : Prop := parts.length = parts'.length ∧ ∀ i, i < parts.length → parts.getD i noV = parts'.getD i noV
set_option maxHeartbeats 4000000 in
theorem iEqFunc (d : Nat) (HE : HEOk d) (parts parts' : List Vec) (a a' : Option Addr) (c c' e lo hi lo' hi' : Nat) (w : World) (hs : VecsAt lo hi w d a parts) (hhi : hi ≤ w.heap.size) (hs' : VecsAt lo' hi' w e a' parts') (hhi' : hi' ≤ w.heap.size)
    (hsp : ∀ i, i < parts.length → Small d (parts.getD i noV)) (hsp' : ∀ i, i < parts'.length → Small e (parts'.getD i noV)) (hn : parts.length ≤ 1048576) (hn' : parts'.length ≤ 1048576) :
    Calls Try.prog 107 #[.slice a parts.length c, .slice a' parts'.length c', .func (.func 84) #[] #[]] w fun r w' => r = .returned (.bool (bB (EqPs parts parts'))) ∧ Below w.heap.size w w' := by
  by_cases hnm : parts.length = parts'.length
  · have AP := Lib.hid (fun (k : Nat) (w1 : World) (hk : k < parts.length) (hb : Below w.heap.size w w1) => (hs.below hb hhi).at_ hk)
    have AP' := Lib.hid (fun (k : Nat) (w1 : World) (hk : k < parts.length) (hb : Below w.heap.size w w1) => (hs'.below hb hhi').at_ (k := k) (by omega))
    have CP := Lib.hid (fun (k : Nat) (w1 : World) (x y : Value) (hk : k < parts.length) (hb : Below w.heap.size w w1) (hv : VecAt lo hi w1 d (parts.getD k noV) x) (hv' : VecAt lo' hi' w1 e (parts'.getD k noV) y) => HE.out _ _ x y e lo hi lo' hi' w1 hv (Nat.le_trans hhi hb.size) hv' (Nat.le_trans hhi' hb.size) (hsp k hk) (hsp' k (by omega)))
    have NM := Lib.hid hnm
    have XE := Lib.hid (show EqPs parts parts' ↔ ∀ i, i < parts.length → parts.getD i noV = parts'.getD i noV from ⟨fun h => h.2, fun h => ⟨hnm, h⟩⟩)
    obtain ⟨n, hn_⟩ : ∃ n, parts.length = n := ⟨_, rfl⟩
    rw [← hnm]
    rw [hn_] at AP AP' CP XE hn ⊢
    clear hs hs' hsp hsp' hn_ hnm HE hn'
    go_enter Try.func107, Try.ntmps107
    go_wp2
    go_loopw [17] (fun i wr => ∃ k : Nat, k ≤ n ∧ i = .int .i64 k ∧ (∀ j, j < k → parts.getD j noV = parts'.getD j noV) ∧ Below w.heap.size w wr) (fun i _ => n - (intOf i).toNat)
    case atStart => exact ⟨0, Nat.zero_le _, rfl, fun _ h => absurd h (Nat.not_lt_zero _), Below.refl _ _⟩
    case round =>
      obtain ⟨k, hk, rfl, hit, hb⟩ := hrel
      have IT := Lib.hid hit
      have BB := Lib.hid hb
      clear hit hb
      by_cases hlt : k < n
      · obtain ⟨b, off, u0, u1, u2, u3, u4, u5, u6, u7, rfl, hbB, hv, c0, c1, c2, c3, c4, c5, c6, c7⟩ := AP.out _ _ hlt BB.out
        obtain ⟨b', off', x0, x1, x2, x3, x4, x5, x6, x7, rfl, hbB', hv', d0, d1, d2, d3, d4, d5, d6, d7⟩ := AP'.out _ _ hlt BB.out
        obtain ⟨zk, a1, n1, m1, a2, n2, m2, a3, n3, m3, a4, n4, m4, a5, n5, m5, zc, ze, rfl, rfl, rfl, rfl, rfl, rfl, rfl, rfl⟩ := hv.cells
        obtain ⟨yk, b1, o1, p1, b2, o2, p2, b3, o3, p3, b4, o4, p4, b5, o5, p5, yc, ye, rfl, rfl, rfl, rfl, rfl, rfl, rfl, rfl⟩ := hv'.cells
        have hlt' : (k : Int) < (n : Int) := by omega
        have hwb : b < wr.heap.size := Nat.lt_of_lt_of_le (Nat.lt_of_lt_of_le hbB hhi) BB.out.size
        have hwb' : b' < wr.heap.size := Nat.lt_of_lt_of_le (Nat.lt_of_lt_of_le hbB' hhi') BB.out.size
        have C := Lib.hid (CP.out k ((wr.alloc (.cells #[.int .i64 zk, .slice a1 n1 m1, .slice a2 n2 m2, .slice a3 n3 m3, .slice a4 n4 m4, .slice a5 n5 m5, .int .i64 zc, .int .i64 ze] 32)).alloc (.cells #[.int .i64 yk, .slice b1 o1 p1, .slice b2 o2 p2, .slice b3 o3 p3, .slice b4 o4 p4, .slice b5 o5 p5, .int .i64 yc, .int .i64 ye] 32)) _ _ hlt (below_then BB.out (below2 wr _ _)) (hv.below (below2 wr _ _) (Nat.le_trans hhi BB.out.size)) (hv'.below (below2 wr _ _) (Nat.le_trans hhi' BB.out.size)))
        have BL := Lib.hid (below_then BB.out (below2 wr (.cells #[.int .i64 zk, .slice a1 n1 m1, .slice a2 n2 m2, .slice a3 n3 m3, .slice a4 n4 m4, .slice a5 n5 m5, .int .i64 zc, .int .i64 ze] 32) (.cells #[.int .i64 yk, .slice b1 o1 p1, .slice b2 o2 p2, .slice b3 o3 p3, .slice b4 o4 p4, .slice b5 o5 p5, .int .i64 yc, .int .i64 ye] 32)))
        clear hv hv'
        go_wp2_with fail
        with_reducible refine C.out.mono ?_
        rintro r w1 ⟨rfl, b1⟩
        have B1 := Lib.hid (below_then BL.out b1)
        clear b1
        by_cases hp : parts.getD k noV = parts'.getD k noV
        · rw [bB_yes hp]
          have HN := Lib.hid (show ∀ j, j < k + 1 → parts.getD j noV = parts'.getD j noV from fun j hj => by
            by_cases e : j = k
            · subst e; exact hp
            · exact IT.out j (by omega))
          clear hp
          go_wp2
          go_roundw
          case rel => exact ⟨k + 1, by omega, by go_num, HN.out, B1.out⟩
          case measure => simp [intOf]; omega
        · rw [bB_no hp]
          have X := Lib.hid (fun h => hp (XE.out.1 h k hlt) : ¬ EqPs parts parts')
          clear hp
          go_wp2
          go_ret
          exact ⟨ret_no X.out, B1.out⟩
      · obtain rfl : k = n := by omega
        have X := Lib.hid (show EqPs parts parts' from XE.out.2 IT.out)
        go_wp2
        go_ret
        exact ⟨ret_yes X.out, BB.out⟩
  · have X := Lib.hid (show ¬ EqPs parts parts' from fun h => hnm h.1)
    obtain ⟨n, h1⟩ : ∃ n, parts.length = n := ⟨_, rfl⟩
    obtain ⟨m, h2⟩ : ∃ m, parts'.length = m := ⟨_, rfl⟩
    rw [h1, h2] at hnm ⊢
    have hnm' : ¬ (n : Int) = (m : Int) := by omega
    clear hs hs' hsp hsp' h1 h2 hn hn'
    go_enter Try.func107, Try.ntmps107
    go_wp2
    go_ret
    exact ⟨ret_no X.out, Below.refl _ _⟩
set_option maxHeartbeats 8000000 in
theorem heStep (d : Nat) (IH : ∀ m, d = m + 1 → HEOk m) : HEOk d := by
  refine ⟨fun a b x y d2 lo hi lo' hi' w hv hhi hv' hhi' hsm hsm' => ?_⟩
  obtain ⟨kk, items, parts, names, cls, levels, code, env⟩ := a
  obtain ⟨kk', items', parts', names', cls', levels', code', env'⟩ := b
  obtain ⟨d', ai, ci, ap, cp, an, cn, ac, cc, al, cl, ed, rfl, hI, hN, hC, hL, hP⟩ := vecAt_open hv
  obtain ⟨e', ai', ci', ap', cp', an', cn', ac', cc', al', cl', ed', rfl, hI', hN', hC', hL', hP'⟩ := vecAt_open hv'
  subst ed ed'
  have hsp : ∀ i, i < parts.length → Small d' (parts.getD i noV) := fun i hi => Small.part hsm hi
  have hsp' : ∀ i, i < parts'.length → Small e' (parts'.getD i noV) := fun i hi => Small.part hsm' hi
  obtain ⟨li, lp, ln, lc, ll, _⟩ := hsm
  obtain ⟨li', lp', ln', lc', ll', _⟩ := hsm'
  have CN := Lib.hid (fun (w1 : World) (hb : Below w.heap.size w w1) => implEqTx an an' names.length names'.length cn cn' (txtS names) (txtS names') hi hi' w1 (hN.below hb hhi).strs (hN'.below hb hhi').strs ln ln')
  have CC := Lib.hid (fun (w1 : World) (hb : Below w.heap.size w w1) => implEqTx ac ac' cls.length cls'.length cc cc' (txtS cls) (txtS cls') hi hi' w1 (hC.below hb hhi).strs (hC'.below hb hhi').strs lc lc')
  have CL := Lib.hid (fun (w1 : World) (hb : Below w.heap.size w w1) => implEqTx al al' levels.length levels'.length cl cl' (txtS levels) (txtS levels') hi hi' w1 (hL.below hb hhi).strs (hL'.below hb hhi').strs ll ll')
  have CIt := Lib.hid (fun (w1 : World) (hb : Below w.heap.size w w1) => implEqIt ai ai' items items' ci ci' lo hi lo' hi' w1 (hI.below hb hhi) (hI'.below hb hhi') li li')
  have CPs := Lib.hid (fun (w1 : World) (hb : Below w.heap.size w w1) => iEqFunc d' (IH d' rfl) parts parts' ap ap' cp cp' e' lo hi lo' hi' w1 (hP.below hb hhi) (Nat.le_trans hhi hb.size) (hP'.below hb hhi') (Nat.le_trans hhi' hb.size) hsp hsp' lp lp')
  have XV := Lib.hid (show (Vec.mk kk items parts names cls levels code env = Vec.mk kk' items' parts' names' cls' levels' code' env') ↔ (kk = kk' ∧ EqIt (fun i => items.getD i noI) (fun i => items'.getD i noI) items.length items'.length ∧ EqPs parts parts' ∧ EqTx (txtS names) (txtS names') names.length names'.length ∧ EqTx (txtS cls) (txtS cls') cls.length cls'.length ∧ EqTx (txtS levels) (txtS levels') levels.length levels'.length ∧ code = code' ∧ env = env') from by
    rw [Vec.mk.injEq, eqIt_list, show parts = parts' ↔ EqPs parts parts' from eq_getD noV parts parts', eqTx_list names names', eqTx_list cls cls', eqTx_list levels levels'])
  clear hv hv' hI hN hC hL hP hI' hN' hC' hL' hP' hsp hsp' IH
  obtain ⟨VV, hVV⟩ : ∃ V, Vec.mk kk items parts names cls levels code env = V := ⟨_, rfl⟩
  obtain ⟨VV', hVV'⟩ : ∃ V, Vec.mk kk' items' parts' names' cls' levels' code' env' = V := ⟨_, rfl⟩
  rw [hVV, hVV'] at XV ⊢
  clear hVV hVV'
  obtain ⟨ni, hni⟩ : ∃ x, items.length = x := ⟨_, rfl⟩
  obtain ⟨ni', hni'⟩ : ∃ x, items'.length = x := ⟨_, rfl⟩
  obtain ⟨np, hnp⟩ : ∃ x, parts.length = x := ⟨_, rfl⟩
  obtain ⟨np', hnp'⟩ : ∃ x, parts'.length = x := ⟨_, rfl⟩
  obtain ⟨nn, hnn⟩ : ∃ x, names.length = x := ⟨_, rfl⟩
  obtain ⟨nn', hnn'⟩ : ∃ x, names'.length = x := ⟨_, rfl⟩
  obtain ⟨nc, hnc⟩ : ∃ x, cls.length = x := ⟨_, rfl⟩
  obtain ⟨nc', hnc'⟩ : ∃ x, cls'.length = x := ⟨_, rfl⟩
  obtain ⟨nl, hnl⟩ : ∃ x, levels.length = x := ⟨_, rfl⟩
  obtain ⟨nl', hnl'⟩ : ∃ x, levels'.length = x := ⟨_, rfl⟩
  rw [hni] at CIt XV li
  rw [hni'] at CIt XV li'
  rw [hnp] at CPs lp
  rw [hnp'] at CPs lp'
  rw [hnn] at CN XV ln
  rw [hnn'] at CN XV ln'
  rw [hnc] at CC XV lc
  rw [hnc'] at CC XV lc'
  rw [hnl] at CL XV ll
  rw [hnl'] at CL XV ll'
  rw [hni, hnp, hnn, hnc, hnl, hni', hnp', hnn', hnc', hnl']
  clear hni hnp hnn hnc hnl hni' hnp' hnn' hnc' hnl'
  by_cases z0 : kk = kk'
  · subst z0
    by_cases z3 : code = code'
    · subst z3
      by_cases z4 : env = env'
      · subst z4
        go_enter Try.func84, Try.ntmps84
        go_wp2_with fail
        have B0 := Lib.hid (below2 w (.cells #[.int .i64 kk, .slice ai ni ci, .slice ap np cp, .slice an nn cn, .slice ac nc cc, .slice al nl cl, .int .i64 code, .int .i64 env] 32) (.cells #[.int .i64 kk, .slice ai' ni' ci', .slice ap' np' cp', .slice an' nn' cn', .slice ac' nc' cc', .slice al' nl' cl', .int .i64 code, .int .i64 env] 32))
        have KA0 := Lib.hid (blk_old (p := .cells #[.int .i64 kk, .slice ai' ni' ci', .slice ap' np' cp', .slice an' nn' cn', .slice ac' nc' cc', .slice al' nl' cl', .int .i64 code, .int .i64 env] 32) (blk_new w (.cells #[.int .i64 kk, .slice ai ni ci, .slice ap np cp, .slice an nn cn, .slice ac nc cc, .slice al nl cl, .int .i64 code, .int .i64 env] 32) rfl))
        have KB0 := Lib.hid (blk_new (w.alloc (.cells #[.int .i64 kk, .slice ai ni ci, .slice ap np cp, .slice an nn cn, .slice ac nc cc, .slice al nl cl, .int .i64 code, .int .i64 env] 32)) (.cells #[.int .i64 kk, .slice ai' ni' ci', .slice ap' np' cp', .slice an' nn' cn', .slice ac' nc' cc', .slice al' nl' cl', .int .i64 code, .int .i64 env] 32) (show w.heap.size + 1 = _ by simp))
        with_reducible refine (CIt.out _ B0.out).mono ?_
        rintro e w1 ⟨rfl, b⟩
        have B1 := Lib.hid (below_then B0.out b)
        have KA1 := Lib.hid (blk_below b KA0.out)
        have KB1 := Lib.hid (blk_below b KB0.out)
        clear b
        obtain ⟨k0, k1, k2, k3, k4, k5, k6, k7⟩ := vec8 KA1.out
        obtain ⟨l0, l1, l2, l3, l4, l5, l6, l7⟩ := vec8 KB1.out
        by_cases q1 : EqIt (fun i => items.getD i noI) (fun i => items'.getD i noI) ni ni'
        · rw [bB_yes q1]
          have Q1 := Lib.hid q1
          clear q1
          go_wp2_with fail
          with_reducible refine (CPs.out _ B1.out).mono ?_
          rintro e w2 ⟨rfl, b⟩
          have B2 := Lib.hid (below_then B1.out b)
          have KA2 := Lib.hid (blk_below b KA1.out)
          have KB2 := Lib.hid (blk_below b KB1.out)
          clear b k0 k1 k2 k3 k4 k5 k6 k7 l0 l1 l2 l3 l4 l5 l6 l7
          obtain ⟨k0, k1, k2, k3, k4, k5, k6, k7⟩ := vec8 KA2.out
          obtain ⟨l0, l1, l2, l3, l4, l5, l6, l7⟩ := vec8 KB2.out
          by_cases q2 : EqPs parts parts'
          · rw [bB_yes q2]
            have Q2 := Lib.hid q2
            clear q2
            go_wp2_with fail
            with_reducible refine (CN.out _ B2.out).mono ?_
            rintro e w3 ⟨rfl, b⟩
            have B3 := Lib.hid (below_then B2.out b)
            have KA3 := Lib.hid (blk_below b KA2.out)
            have KB3 := Lib.hid (blk_below b KB2.out)
            clear b k0 k1 k2 k3 k4 k5 k6 k7 l0 l1 l2 l3 l4 l5 l6 l7
            obtain ⟨k0, k1, k2, k3, k4, k5, k6, k7⟩ := vec8 KA3.out
            obtain ⟨l0, l1, l2, l3, l4, l5, l6, l7⟩ := vec8 KB3.out
            by_cases q3 : EqTx (txtS names) (txtS names') nn nn'
            · rw [bB_yes q3]
              have Q3 := Lib.hid q3
              clear q3
              go_wp2_with fail
              with_reducible refine (CC.out _ B3.out).mono ?_
              rintro e w4 ⟨rfl, b⟩
              have B4 := Lib.hid (below_then B3.out b)
              have KA4 := Lib.hid (blk_below b KA3.out)
              have KB4 := Lib.hid (blk_below b KB3.out)
              clear b k0 k1 k2 k3 k4 k5 k6 k7 l0 l1 l2 l3 l4 l5 l6 l7
              obtain ⟨k0, k1, k2, k3, k4, k5, k6, k7⟩ := vec8 KA4.out
              obtain ⟨l0, l1, l2, l3, l4, l5, l6, l7⟩ := vec8 KB4.out
              by_cases q4 : EqTx (txtS cls) (txtS cls') nc nc'
              · rw [bB_yes q4]
                have Q4 := Lib.hid q4
                clear q4
                go_wp2_with fail
                with_reducible refine (CL.out _ B4.out).mono ?_
                rintro e w5 ⟨rfl, b⟩
                have B5 := Lib.hid (below_then B4.out b)
                have KA5 := Lib.hid (blk_below b KA4.out)
                have KB5 := Lib.hid (blk_below b KB4.out)
                clear b k0 k1 k2 k3 k4 k5 k6 k7 l0 l1 l2 l3 l4 l5 l6 l7
                obtain ⟨k0, k1, k2, k3, k4, k5, k6, k7⟩ := vec8 KA5.out
                obtain ⟨l0, l1, l2, l3, l4, l5, l6, l7⟩ := vec8 KB5.out
                by_cases q5 : EqTx (txtS levels) (txtS levels') nl nl'
                · rw [bB_yes q5]
                  have Q5 := Lib.hid q5
                  clear q5
                  have X := Lib.hid (show VV = VV' from XV.out.2 ⟨by first | rfl | trivial, Q1.out, Q2.out, Q3.out, Q4.out, Q5.out, by first | rfl | trivial, by first | rfl | trivial⟩)
                  go_wp2
                  go_ret
                  exact ⟨ret_yes X.out, B5.out⟩
                · have X := Lib.hid (fun h => q5 (XV.out.1 h).2.2.2.2.2.1 : ¬ VV = VV')
                  rw [bB_no q5]
                  clear q5
                  go_wp2
                  go_ret
                  exact ⟨ret_no X.out, B5.out⟩
              · have X := Lib.hid (fun h => q4 (XV.out.1 h).2.2.2.2.1 : ¬ VV = VV')
                rw [bB_no q4]
                clear q4
                go_wp2
                go_ret
                exact ⟨ret_no X.out, B4.out⟩
            · have X := Lib.hid (fun h => q3 (XV.out.1 h).2.2.2.1 : ¬ VV = VV')
              rw [bB_no q3]
              clear q3
              go_wp2
              go_ret
              exact ⟨ret_no X.out, B3.out⟩
          · have X := Lib.hid (fun h => q2 (XV.out.1 h).2.2.1 : ¬ VV = VV')
            rw [bB_no q2]
            clear q2
            go_wp2
            go_ret
            exact ⟨ret_no X.out, B2.out⟩
        · have X := Lib.hid (fun h => q1 (XV.out.1 h).2.1 : ¬ VV = VV')
          rw [bB_no q1]
          clear q1
          go_wp2
          go_ret
          exact ⟨ret_no X.out, B1.out⟩
      · have X := Lib.hid (fun h => z4 (XV.out.1 h).2.2.2.2.2.2.2 : ¬ VV = VV')
        go_enter Try.func84, Try.ntmps84
        go_wp2
        go_ret
        exact ⟨ret_no X.out, below2 _ _ _⟩
    · have X := Lib.hid (fun h => z3 (XV.out.1 h).2.2.2.2.2.2.1 : ¬ VV = VV')
      go_enter Try.func84, Try.ntmps84
      go_wp2
      go_ret
      exact ⟨ret_no X.out, below2 _ _ _⟩
  · have X := Lib.hid (fun h => z0 (XV.out.1 h).1 : ¬ VV = VV')
    go_enter Try.func84, Try.ntmps84
    go_wp2
    go_ret
    exact ⟨ret_no X.out, below2 _ _ _⟩
theorem heAll : ∀ d, HEOk d
  | 0 => heStep 0 (fun m e => by omega)
  | d + 1 => heStep (d + 1) (fun m e => (Nat.succ.inj e) ▸ heAll d)
end Go.Proofs.Ytemkppdinmfaoaa
