/- CombineVectors with labels: the reference. -/
import Derived.Test.YtddebgmjolojeaaDoorRows
import Derived.Test.YtddebgmjolojeaaDoorMc4
import Derived.Test.YtddebgmjolojeaaDoorMc2
import Derived.Test.YtddebgmjolojeaaDoorMc3
import Derived.Test.YtddebgmjolojeaaDoorMc1
import Derived.Test.YtddebgmjolojeaaDoorVecIt
import Derived.Maps.AppendAt
import Derived.WalkKit
import Derived.OwnWalk
import Derived.Deep.DeepCutAuto
import Derived.Lib.Hide
namespace Go.Proofs.YtddebgmjolojeaaDoor
open Go.RowKit
set_option maxRecDepth 100000
set_option linter.unusedVariables false

set_option maxHeartbeats 16000000 in
theorem specCombineT (d : Nat) (l : List Vec) (N : List ByteArray) (pa na : Option Addr) (pc nc lo hi : Nat) (w : World) (hP : VecsAt lo hi w d pa l) (hN : TextsAt lo hi w na N) (hhi : hi ≤ w.heap.size) (hsp : ∀ i, i < l.length → Small d (l.getD i noV)) (ll : l.length ≤ 1048576) (lN : N.length ≤ 1048576) (zN : ∀ s ∈ N, s.size ≤ 1048576)
    (hz : AllV l → LabOk l N → totL l l.length ≤ 40 → Small (d + 1) (cmR l N)) (hNl : 0 < N.length) :
    Calls Tryd.prog 14 #[.slice pa l.length pc, .slice na N.length nc] w (ResVS (d + 1) (cmV l N) (cmS l N) w) := by
  have HNL := Lib.hid hNl
  clear hNl
  have CI := Lib.hid (fun (k : Nat) (hk : k < l.length) (y : Value) (w1 : World) (hb : Below w.heap.size w w1) (h : VecAt lo hi w1 d (l.getD k noV) y) => specIsVector d (l.getD k noV) y lo hi w1 h (Nat.le_trans hhi hb.size) (hsp k hk))
  have CLW := Lib.hid (fun (k : Nat) (hk : k < l.length) (y : Value) (w1 : World) (hb : Below w.heap.size w w1) (h : VecAt lo hi w1 d (l.getD k noV) y) => specLenC d (l.getD k noV) y lo hi w1 h (hsp k hk))
  have HP := Lib.hid (fun (k : Nat) (hk : k < l.length) (w1 : World) (hb : Below w.heap.size w w1) => (hP.below hb hhi).at_ hk)
  have HT := Lib.hid (fun (W : World) (hb : Below w.heap.size w W) => hN.below hb hhi)
  have SMP := Lib.hid hsp
  have XA := Lib.hid (show AllV l ↔ ∀ i, i < l.length → ValidV (l.getD i noV) from Iff.rfl)
  have XB := Lib.hid (fun h => cm_bad (l := l) (N := N) h)
  have XL := Lib.hid (fun h h1 => cm_lab (l := l) (N := N) h h1)
  have XG := Lib.hid (fun h h1 h2 => cm_big (l := l) (N := N) h h1 h2)
  have XN := Lib.hid (fun h h1 h2 => cm_no (l := l) (N := N) h h1 h2)
  have XY := Lib.hid (fun h h1 h2 h3 => cm_yes (l := l) (N := N) h h1 h2 h3)
  have LO := Lib.hid (show LabOk l N ↔ (N.length = 0 ∨ N.length = l.length) from Iff.rfl)
  have HZ := Lib.hid hz
  have OKC := Lib.hid (fun (h : AllV l) i (hi : i < l.length) => cm_ok h hi)
  have EI := Lib.hid (fun i => (by exact rfl : cmI (cmK l) l (i + 1) = cmI (cmK l) l i ++ itmV (coeV (cmK l) (l.getD i noV))))
  have EP := Lib.hid (fun i => (by exact rfl : cmP (cmK l) l (i + 1) = cmP (cmK l) l i ++ partsV (coeV (cmK l) (l.getD i noV))))
  have ET := Lib.hid (fun i => (by exact rfl : cmT l N (i + 1) = cmT l N i ++ cmN (nmA N i) (l.getD i noV) (lengthV (l.getD i noV))))
  have LEN := Lib.hid (fun (h : AllV l) (hb : totL l l.length ≤ 40) i (hi : i ≤ l.length) => (by
    have h1 := cm_len h i hi
    have h2 := cmT_len l N i
    have h3 := totL_mono l i (l.length - i)
    rw [show i + (l.length - i) = l.length by omega] at h3
    omega : (cmI (cmK l) l i).length ≤ 40 ∧ (cmP (cmK l) l i).length ≤ 40 ∧ (cmT l N i).length ≤ 40))
  have NZ := Lib.hid (fun i => nmA_size zN i)
  have ER := Lib.hid (show cmR l N = .mk (cmK l) (cmI (cmK l) l l.length) (cmP (cmK l) l l.length) (clnN (cmT l N l.length)) [] [] 0 0 from rfl)
  have I0 := Lib.hid (show cmI (cmK l) l 0 = [] ∧ cmP (cmK l) l 0 = [] ∧ cmT l N 0 = [] from ⟨rfl, rfl, rfl⟩)
  have EK := Lib.hid (show latL l l.length = cmK l from rfl)
  have EL := Lib.hid (fun k => (by exact rfl : latL l (k + 1) = max (latL l k) (min (kindV (l.getD k noV)) 4)))
  have EL0 := Lib.hid (show latL l 0 = 0 from rfl)
  have ETT := Lib.hid (fun k => (by exact rfl : totL l (k + 1) = totL l k + lengthV (l.getD k noV)))
  have ET0 := Lib.hid (show totL l 0 = 0 from rfl)
  have TLB := Lib.hid (fun k (h : ∀ j, j < k → ValidV (l.getD j noV)) => totL_lp k h)
  obtain ⟨lat, hlat⟩ : ∃ f : Nat → Int, latL l = f := ⟨_, rfl⟩
  rw [hlat] at EK EL EL0
  obtain ⟨j, hj⟩ : ∃ j, cmK l = j := ⟨_, rfl⟩
  rw [hj] at OKC EI EP LEN ER I0 EK
  obtain ⟨I, hI⟩ : ∃ I : Nat → List It, cmI j l = I := ⟨_, rfl⟩
  obtain ⟨P, hP'⟩ : ∃ P : Nat → List Vec, cmP j l = P := ⟨_, rfl⟩
  obtain ⟨T, hT⟩ : ∃ T : Nat → List ByteArray, cmT l N = T := ⟨_, rfl⟩
  rw [hI] at EI LEN ER I0
  rw [hP'] at EP LEN ER I0
  rw [hT] at ET LEN ER I0
  obtain ⟨R, hR⟩ : ∃ R, cmR l N = R := ⟨_, rfl⟩
  rw [hR] at XN XY HZ ER
  obtain ⟨EV, hEV⟩ : ∃ y, cmV l N = y := ⟨_, rfl⟩
  obtain ⟨ES, hES⟩ : ∃ y, cmS l N = y := ⟨_, rfl⟩
  rw [hEV, hES] at XB XL XG XN XY ⊢
  obtain ⟨tt, htt⟩ : ∃ f : Nat → Nat, totL l = f := ⟨_, rfl⟩
  rw [htt] at XG XY HZ LEN ETT ET0 TLB
  obtain ⟨n, hn⟩ : ∃ x, l.length = x := ⟨_, rfl⟩
  rw [hn] at CI CLW HP SMP LO OKC LEN ER XA EK XG XY HZ ll ⊢
  clear hP hN hsp hz hj hI hP' hT hR hEV hES htt hn hlat
  go_enter Tryd.func14, Tryd.ntmps14
  go_upto_region 4 with (fail)
  obtain ⟨w1, hw1⟩ : ∃ W, w.alloc (.cells #[.int .i64 0, .slice none 0 0, .slice none 0 0, .slice none 0 0, .slice none 0 0, .slice none 0 0, .int .i64 0, .int .i64 0] 31) = W := ⟨_, rfl⟩
  have B1 := Lib.hid (show Below w.heap.size w w1 from hw1 ▸ (below1 w _))
  have KR := Lib.hid (show w1.heap[w.heap.size]? = some (.cells #[.int .i64 0, .slice none 0 0, .slice none 0 0, .slice none 0 0, .slice none 0 0, .slice none 0 0, .int .i64 0, .int .i64 0] 31 (0, 0)) from hw1 ▸ blk_new w _ rfl)
  have Z1 := Lib.hid (show w1.heap.size = w.heap.size + 1 from hw1 ▸ (by simp))
  rw [hw1]
  clear hw1
  have LR := Lib.hid (Array.getElem?_eq_some_iff.1 KR.out).1
  go_wp2
  go_loopw [6, 7, 8] (fun kd sm s wr => ∃ k : Nat, k ≤ n ∧ kd = .int .i64 (lat k) ∧ sm = .int .i64 (tt k) ∧ s = .int .i64 k ∧ (∀ j, j < k → ValidV (l.getD j noV)) ∧ Below w.heap.size w wr ∧ wr.heap[w.heap.size]? = some (.cells #[.int .i64 0, .slice none 0 0, .slice none 0 0, .slice none 0 0, .slice none 0 0, .slice none 0 0, .int .i64 0, .int .i64 0] 31 (0, 0))) (fun _ _ s _ => n - (intOf s).toNat)
  case atStart => exact ⟨0, Nat.zero_le _, by rw [EL0.out], by rw [ET0.out]; rfl, rfl, (fun _ h => absurd h (Nat.not_lt_zero _)), B1.out, KR.out⟩
  case round =>
    obtain ⟨k, hk, rfl, rfl, rfl, hpv, hbw, hkr⟩ := hrel
    have BW := Lib.hid hbw
    have PV := Lib.hid hpv
    have KR := Lib.hid hkr
    clear hbw hpv hkr B1
    by_cases hlt : k < n
    · obtain ⟨bp, offp, c0, c1, c2, c3, c4, c5, c6, c7, rfl, hbp, hva, p0, p1, p2, p3, p4, p5, p6, p7⟩ := HP.out k hlt wr BW.out
      have hbr : bp < wr.heap.size := by have := BW.out.size; omega
      have VA := Lib.hid hva
      have E1 := Lib.hid (EL.out k)
      have E2 := Lib.hid (ETT.out k)
      have t1 := TLB.out k PV.out
      have CIk := Lib.hid (fun y W hb h => CI.out k hlt y W hb h)
      have CLk := Lib.hid (fun y W hb h => CLW.out k hlt y W hb h)
      have VN := Lib.hid (fun (q : ValidV (l.getD k noV)) => valid_next PV.out q)
      have VL := Lib.hid (fun (q : ValidV (l.getD k noV)) => valid_len q)
      have XAk := Lib.hid (fun h => (XA.out.1 h) k hlt)
      obtain ⟨p, hp⟩ : ∃ p, l.getD k noV = p := ⟨_, rfl⟩
      rw [hp] at E1 E2 VA hva CIk CLk VN VL XAk
      obtain ⟨kk, items, parts, names, cls, levels, code, env⟩ := p
      obtain ⟨d', ai, ci, ap, cp, an, cn, ac, cc, al, cl, ed, e, _⟩ := vecAt_open hva
      simp only [Value.agg.injEq, Array.mk.injEq, List.cons.injEq, and_true] at e
      obtain ⟨rfl, rfl, rfl, rfl, rfl, rfl, rfl, rfl⟩ := e
      have E1 := Lib.hid (show lat (k + 1) = max (lat k) (min kk 4) from E1.out)
      clear hva hp ed CI CLW EL ETT TLB
      go_wp2_with fail
      with_reducible refine (CIk.out _ _ BW.out VA.out).mono ?_
      rintro e w2 ⟨rfl, b'⟩
      have VA := Lib.hid (VA.out.below b' (by have := BW.out.size; omega))
      have q0 := (b'.cell (p := ⟨bp, offp + k * 8, none⟩) hbr).trans p0
      have q1 := (b'.cell (p := ⟨bp, offp + k * 8 + 1, none⟩) hbr).trans p1
      have q2 := (b'.cell (p := ⟨bp, offp + k * 8 + 2, none⟩) hbr).trans p2
      have q3 := (b'.cell (p := ⟨bp, offp + k * 8 + 3, none⟩) hbr).trans p3
      have q4 := (b'.cell (p := ⟨bp, offp + k * 8 + 4, none⟩) hbr).trans p4
      have q5 := (b'.cell (p := ⟨bp, offp + k * 8 + 5, none⟩) hbr).trans p5
      have q6 := (b'.cell (p := ⟨bp, offp + k * 8 + 6, none⟩) hbr).trans p6
      have q7 := (b'.cell (p := ⟨bp, offp + k * 8 + 7, none⟩) hbr).trans p7
      have hbr2 : bp < w2.heap.size := by have := b'.size; omega
      have KR := Lib.hid (blk_below b' KR.out)
      have B2 := Lib.hid (below_then BW.out b')
      clear b' p0 p1 p2 p3 p4 p5 p6 p7 CIk BW
      by_cases q : ValidV (.mk kk items parts names cls levels code env)
      · rw [bB_yes q]
        have Q := Lib.hid (VN.out q)
        have t2 := VL.out q
        clear q VN VL XAk XB XL XG XN XY
        obtain ⟨x, hx⟩ : ∃ x, lengthV (.mk kk items parts names cls levels code env) = x := ⟨_, rfl⟩
        rw [hx] at E2 t2 CLk
        clear hx
        obtain ⟨z, hz⟩ : ∃ z, tt k = z := ⟨_, rfl⟩
        rw [hz] at E2 t1 ⊢
        clear hz
        obtain ⟨la, hla⟩ : ∃ z, lat k = z := ⟨_, rfl⟩
        rw [hla] at E1 ⊢
        clear hla
        go_wp2_with fail
        with_reducible refine (CLk.out _ _ B2.out VA.out).mono ?_
        rintro e w3 ⟨rfl, b'⟩
        have B3 := Lib.hid (below_then B2.out b')
        have KR := Lib.hid (blk_below b' KR.out)
        clear b' q0 q1 q2 q3 q4 q5 q6 q7 CLk
        go_wp2
        go_roundw
        case rel => exact ⟨k + 1, by omega, by rw [E1.out]; try go_num, by rw [E2.out]; try go_num, by go_num, Q.out, B3.out, KR.out⟩
        case measure => simp [intOf]; omega
      · rw [bB_no q]
        have XX := Lib.hid (XB.out (fun h => q (XAk.out h)))
        clear q VN VL XAk XB XL XG XN XY HZ OKC LEN LO
        go_wp2_with fail
        with_reducible refine (specBad _).mono ?_
        rintro e w3 ⟨rfl, b'⟩
        have B3 := Lib.hid (below_then B2.out b')
        have KR := Lib.hid (blk_below b' KR.out)
        clear b' q0 q1 q2 q3 q4 q5 q6 q7 CLk
        obtain ⟨z0, z1, z2, z3, z4, z5, z6, z7⟩ := vec8 KR.out
        obtain ⟨f0, f1, f2, f3, f4, f5, f6, f7⟩ := free8 KR.out
        go_wp2
        rw [XX.out.1, XX.out.2]
        exact vec_endS rfl rfl rfl rfl KR.out (zeroSA _ _ w _ (put8_below B3.out (Nat.le_refl _)))
    · obtain rfl : k = n := by omega
      have hall := XA.out.2 PV.out
      have XL1 := Lib.hid (fun h1 => XL.out hall h1)
      have XG1 := Lib.hid (fun h1 h2 => XG.out hall h1 h2)
      have XN1 := Lib.hid (fun h1 h2 => XN.out hall h1 h2)
      have XY1 := Lib.hid (fun h1 h2 h3 => XY.out hall h1 h2 h3)
      have HZ1 := Lib.hid (fun h1 h2 => HZ.out hall h1 h2)
      have OKC1 := Lib.hid (fun i hi => OKC.out hall i hi)
      have LEN1 := Lib.hid (fun hb i hi => LEN.out hall hb i hi)
      clear XL XG XN XY HZ OKC LEN
      have XL := XL1
      have XG := XG1
      have XN := XN1
      have XY := XY1
      have HZ := HZ1
      have OKC := OKC1
      have LEN := LEN1
      clear XL1 XG1 XN1 XY1 HZ1 OKC1 LEN1
      have t1 := TLB.out k PV.out
      rw [EK.out]
      obtain ⟨tot, htot⟩ : ∃ x, tt k = x := ⟨_, rfl⟩
      rw [htot] at XG XY HZ LEN t1 ⊢
      clear hall XB XA PV TLB EL EL0 ETT ET0 CI CLW htot EK
      have hN0 : ((N.length : Int) != 0) = true := bne_iff_ne.2 (by have := HNL.out; omega)
      have hN1 : (0 : Int) < (N.length : Int) := by have := HNL.out; omega
      by_cases hlab : N.length = k
      · have hlo := LO.out.2 (.inr hlab)
        have hg : ((N.length : Int) != (k : Int)) = false := by rw [hlab]; simp
        have HL := Lib.hid hlab
        have XG := Lib.hid (fun h2 => XG.out hlo h2)
        have XN := Lib.hid (XN.out hlo)
        have XY := Lib.hid (fun h2 h3 => XY.out hlo h2 h3)
        have HZ := Lib.hid (fun h2 => HZ.out hlo h2)
        clear hlo XL LO
        by_cases ht : tot ≤ 40
        · have hti : (tot : Int) ≤ 40 := by omega
          have hti2 : ¬ (40 : Int) < (tot : Int) := by omega
          have XY := Lib.hid (fun h3 => XY.out ht h3)
          have HZ := Lib.hid (HZ.out ht)
          have LEN := Lib.hid (fun i hi => LEN.out ht i hi)
          clear XG ht
          have LR := Lib.hid (Array.getElem?_eq_some_iff.1 KR.out).1
          go_upto_region 15 with (fail)
          obtain ⟨w5, hw5⟩ : ∃ W, wr.alloc (.cells #[.int .i64 j, .slice none 0 0, .slice none 0 0, .slice none 0 0, .slice none 0 0, .slice none 0 0, .int .i64 0, .int .i64 0] 31) = W := ⟨_, rfl⟩
          have KB := Lib.hid (show w5.heap[wr.heap.size]? = some (.cells #[.int .i64 j, .slice none 0 0, .slice none 0 0, .slice none 0 0, .slice none 0 0, .slice none 0 0, .int .i64 0, .int .i64 0] 31 (0, 0)) from hw5 ▸ blk_new wr _ rfl)
          have KR := Lib.hid (show w5.heap[w.heap.size]? = some (.cells #[.int .i64 0, .slice none 0 0, .slice none 0 0, .slice none 0 0, .slice none 0 0, .slice none 0 0, .int .i64 0, .int .i64 0] 31 (0, 0)) from hw5 ▸ blk_old KR.out)
          have B5 := Lib.hid (show Below w.heap.size w w5 from hw5 ▸ BW.out.alloc BW.out.size _)
          have S5 := Lib.hid (show w5.heap.size = wr.heap.size + 1 from hw5 ▸ (by simp))
          rw [hw5]
          clear hw5 BW
          obtain ⟨b, hb⟩ : ∃ b, wr.heap.size = b := ⟨_, rfl⟩
          rw [hb] at KB LR S5 ⊢
          clear hb
          have U := Lib.hid (Und.start (b + 1) w5 d)
          have W0 := Lib.hid (show w.heap.size ≤ b + 1 by have := LR.out; omega)
          have W1 := Lib.hid (show w.heap.size ≤ b by have := LR.out; omega)
          go_wp2
          go_loopw [10] (fun i wr => ∃ (c : Nat) (vi vp vn : Value) (X : List Nat), c ≤ k ∧ i = .int .i64 c ∧ Below w.heap.size w wr ∧ wr.heap[w.heap.size]? = some (.cells #[.int .i64 0, .slice none 0 0, .slice none 0 0, .slice none 0 0, .slice none 0 0, .slice none 0 0, .int .i64 0, .int .i64 0] 31 (0, 0)) ∧ wr.heap[b]? = some (.cells #[.int .i64 j, vi, vp, vn, .slice none 0 0, .slice none 0 0, .int .i64 0, .int .i64 0] 31 (0, 0)) ∧ b + 1 ≤ wr.heap.size ∧ Und (b + 1) wr d (I c) (P c) (T c) [] [] vi vp vn (.slice none 0 0) (.slice none 0 0) X) (fun i _ => k - (intOf i).toNat)
          case atStart => exact ⟨0, .slice none 0 0, .slice none 0 0, .slice none 0 0, [], Nat.zero_le _, rfl, B5.out, KR.out, KB.out, Nat.le_of_eq S5.out.symm, by rw [I0.out.1, I0.out.2.1, I0.out.2.2]; exact U.out⟩
          case round =>
            obtain ⟨i, vi, vp, vn, X, hki, rfl, hbw', hkr, hkb, hsl, hu⟩ := hrel
            have BW := Lib.hid hbw'
            have KR := Lib.hid hkr
            have KB := Lib.hid hkb
            have SL := Lib.hid hsl
            have L8 := Lib.hid hsl
            have U := Lib.hid hu
            clear hbw' hkr hkb hsl hu B5
            by_cases hlt2 : i < k
            · obtain ⟨bp, offp, c0, c1, c2, c3, c4, c5, c6, c7, rfl, hbp, hva, p0, p1, p2, p3, p4, p5, p6, p7⟩ := HP.out i hlt2 wr BW.out
              have hbr : bp < wr.heap.size := by have := BW.out.size; omega
              have OK := OKC.out i hlt2
              have SMp := SMP.out i hlt2
              have E1 := Lib.hid (EI.out i)
              have E2 := Lib.hid (EP.out i)
              have E3 := Lib.hid (ET.out i)
              have LE := Lib.hid (LEN.out i (Nat.le_of_lt hlt2))
              have LE1 := LEN.out (i + 1) hlt2
              rw [E1.out, E2.out, E3.out] at LE1
              obtain ⟨p, hp⟩ : ∃ p, l.getD i noV = p := ⟨_, rfl⟩
              rw [hp] at E1 E2 E3 OK SMp hva LE1
              have QS := coe_same OK
              have hr1 : 1 ≤ d := by cases d with
                | zero => exact SMp.elim
                | succ d => omega
              obtain ⟨yk, ya1, yn1, ym1, ya2, yn2, ym2, ya3, yn3, ym3, ya4, yn4, ym4, ya5, yn5, ym5, yc, ye, ey⟩ := hva.agg
              have CP := Lib.hid ((specCoerce d p (.agg #[c0, c1, c2, c3, c4, c5, c6, c7]) j lo hi wr hva (Nat.le_trans hhi BW.out.size) SMp).mono (fun e w' (h : _) => (by
                obtain ⟨y, e1, e2, e3⟩ := h
                have eb : coeB j p = true := by
                  obtain ⟨kk, items, parts, names, cls, levels, code, env⟩ := p
                  by_cases h4 : j = 4
                  · subst h4; exact (coe_list (d := 0) rfl OK).2.1
                  · exact (coe_flat (d := 0) rfl OK h4).2.1
                rw [eb] at e1
                exact ⟨y, e1, Own.le (coeD_le hr1) e2, e3⟩ : ResVB (d + 1) (coeV j p) true wr e w')))
              simp only [Value.agg.injEq, Array.mk.injEq, List.cons.injEq, and_true] at ey
              obtain ⟨rfl, rfl, rfl, rfl, rfl, rfl, rfl, rfl⟩ := ey
              obtain ⟨Q, hQ⟩ : ∃ Q, coeV j p = Q := ⟨_, rfl⟩
              rw [hQ] at CP E1 E2 LE1 QS
              have VP := OK.1
              have Z2 : (∀ s ∈ nmsV p, s.size ≤ 1048576) ∧ (nmsV p).length ≤ 1048576 ∧ (∀ q, q < lengthV p → (nmsV p).length ≠ 0 → q < (nmsV p).length) ∧ lengthV p ≤ 40 := by
                obtain ⟨kk, items, parts, names, cls, levels, code, env⟩ := p
                have hf : FlatOk kk items parts.length names cls levels code env := VP.1.flat
                have hnk := hf.h_names
                have hln := hf.h_len
                obtain ⟨d', ai, ci, ap, cp, an, cn, ac, cc, al, cl, ed, e, _⟩ := vecAt_open hva
                obtain ⟨s1, s2, s3, _, _, _, s7, _⟩ := (show Small (d' + 1) (.mk kk items parts names cls levels code env) from ed ▸ SMp)
                exact ⟨s7, s3, fun q hq h => by have : q < lenV kk items.length parts.length := hq; have h' : names.length ≠ 0 := h; show q < names.length; omega, by show lenV kk items.length parts.length ≤ 40; omega⟩
              have NMS := Lib.hid (fun q => (by exact rfl : cmN (nmA N i) p (q + 1) = cmN (nmA N i) p q ++ [cmbN (nmA N i) (nmA (nmsV p) q) (lengthV p) q]))
              have NM0 := Lib.hid (show cmN (nmA N i) p 0 = [] from rfl)
              have NML := Lib.hid (cmN_len (nmA N i) p)
              obtain ⟨NM, hNM⟩ : ∃ f : Nat → List ByteArray, cmN (nmA N i) p = f := ⟨_, rfl⟩
              rw [hNM] at NMS NM0 NML E3 LE1
              obtain ⟨qk, qi, qp, qn, qc, ql, qco, qe⟩ := Q
              have QL : lenV qk qi.length qp.length = lengthV p := QS.1
              have QN0 : nmsV p = qn := QS.2.symm
              rw [QN0] at NMS Z2
              have E1 := Lib.hid (show I (i + 1) = I i ++ qi from E1.out)
              have E2 := Lib.hid (show P (i + 1) = P i ++ qp from E2.out)
              have LQ : (I i ++ qi).length ≤ 40 ∧ (P i ++ qp).length ≤ 40 := ⟨LE1.1, LE1.2.1⟩
              rw [List.length_append, List.length_append] at LQ
              have HQ := Lib.hid LQ
              obtain ⟨Lq, hLq⟩ : ∃ x, lengthV p = x := ⟨_, rfl⟩
              rw [hLq] at QL NMS E3 Z2
              have ZL := Lib.hid (NZ.out i)
              obtain ⟨bn, offn, rfl, _, hbn, hcn⟩ := (HT.out w (Below.refl _ _)) _ _ (nmA_at (show i < N.length by have := HL.out; omega))
              have hiN : i < N.length := by have := HL.out; omega
              obtain ⟨lab, hlab⟩ : ∃ s, nmA N i = s := ⟨_, rfl⟩
              rw [hlab] at NMS ZL hcn
              have HCN := Lib.hid hcn
              have hbnw : bn < w.heap.size := by omega
              clear hcn hlab
              have CBX := Lib.hid (fun (B9 : Nat) (a1 a2 a3 a4 a5 : Option Addr) (m1 m2 m3 m4 m5 : Nat) (q : Nat) (hq : q < Lq) (W : World) (h : NmAt6 wr.heap.size B9 a3 qn W) => (by
                have h := specCmbN lab qk qi qp qn qc ql qco qe a1 a2 a3 a4 a5 m1 m2 m3 m4 m5 wr.heap.size B9 q W h.out h.le (Z2.2.2.1 q hq) Z2.2.1 (by have := LQ.1; omega) (by have := LQ.2; omega) (by have := Z2.2.2.2; omega) ZL.out Z2.1
                rw [QL] at h
                exact h : Calls Tryd.prog 38 #[.string lab, .agg #[.int .i64 qk, .slice a1 qi.length m1, .slice a2 qp.length m2, .slice a3 qn.length m3, .slice a4 qc.length m4, .slice a5 ql.length m5, .int .i64 qco, .int .i64 qe], .int .i64 (q : Int)] W fun e w' => e = .returned (.string (cmbN lab (nmA qn q) Lq q)) ∧ Below W.heap.size W w'))
              obtain ⟨nm, hnm⟩ : ∃ f : Nat → ByteArray, (fun q => cmbN lab (nmA qn q) Lq q) = f := ⟨_, rfl⟩
              have CB := Lib.hid (fun (B9 : Nat) (a1 a2 a3 a4 a5 : Option Addr) (m1 m2 m3 m4 m5 : Nat) (q : Nat) (hq : q < Lq) (W : World) (h : NmAt6 wr.heap.size B9 a3 qn W) => (by have h := CBX.out B9 a1 a2 a3 a4 a5 m1 m2 m3 m4 m5 q hq W h; rw [show cmbN lab (nmA qn q) Lq q = nm q from congrFun hnm q] at h; exact h : Calls Tryd.prog 38 #[.string lab, .agg #[.int .i64 qk, .slice a1 qi.length m1, .slice a2 qp.length m2, .slice a3 qn.length m3, .slice a4 qc.length m4, .slice a5 ql.length m5, .int .i64 qco, .int .i64 qe], .int .i64 (q : Int)] W fun e w' => e = .returned (.string (nm q)) ∧ Below W.heap.size W w'))
              have NMS := Lib.hid (fun q => (by have h := NMS.out q; rw [show cmbN lab (nmA qn q) Lq q = nm q from congrFun hnm q] at h; exact h : NM (q + 1) = NM q ++ [nm q]))
              have LP := Lib.hid (fun (a1 a2 a3 a4 a5 : Option Addr) (m1 m2 m3 m4 m5 : Nat) (W : World) => (by have h := specLen qk a1 a2 a3 a4 a5 qi.length m1 qp.length m2 qn.length m3 qc.length m4 ql.length m5 qco qe W (by have := LQ.1; omega) (by have := LQ.2; omega); rw [QL] at h; exact h : Calls Tryd.prog 36 #[.agg #[.int .i64 qk, .slice a1 qi.length m1, .slice a2 qp.length m2, .slice a3 qn.length m3, .slice a4 qc.length m4, .slice a5 ql.length m5, .int .i64 qco, .int .i64 qe]] W fun e w' => e = .returned (.int .i64 (Lq : Int)) ∧ Below W.heap.size W w'))
              have hLq2 := Z2.2.2.2
              clear hva hp SMp OK QS VP hNM hnm hQ LE1 LQ hLq CBX Z2 QL QN0 hr1
              go_wp2_with fail
              refine (CP.out).mono ?_
              rintro e w7 ⟨y, rfl, ho, b7⟩
              obtain ⟨d9, qa1, qm1, qa2, qm2, qa3, qm3, qa4, qm4, qa5, qm5, ed, rfl, _⟩ := vecAt_open (ho.vat (Nat.le_refl _))
              have KR := Lib.hid (blk_below b7 KR.out)
              have KB := Lib.hid (blk_below b7 KB.out)
              have HO := Lib.hid ho
              have S7 := Lib.hid b7.size
              have BR7 := Lib.hid b7
              have LP := Lib.hid (LP.out qa1 qa2 qa3 qa4 qa5 qm1 qm2 qm3 qm4 qm5)
              clear ho b7 ed CP p0 p1 p2 p3 p4 p5 p6 p7
              go_upto_region 19 with (fail)
              obtain ⟨w8, hw8⟩ : ∃ W, w7.alloc (.cells #[.int .i64 qk, .slice qa1 qi.length qm1, .slice qa2 qp.length qm2, .slice qa3 qn.length qm3, .slice qa4 qc.length qm4, .slice qa5 ql.length qm5, .int .i64 qco, .int .i64 qe] 31) = W := ⟨_, rfl⟩
              have b8' : Below w7.heap.size w7 w8 := hw8 ▸ below1 w7 _
              have K9 := Lib.hid (show w8.heap[w7.heap.size]? = some (.cells #[.int .i64 qk, .slice qa1 qi.length qm1, .slice qa2 qp.length qm2, .slice qa3 qn.length qm3, .slice qa4 qc.length qm4, .slice qa5 ql.length qm5, .int .i64 qco, .int .i64 qe] 31 (0, 0)) from hw8 ▸ blk_new w7 _ rfl)
              have KR := Lib.hid (blk_below b8' KR.out)
              have KB := Lib.hid (blk_below b8' KB.out)
              have BR := Lib.hid (below_then BR7.out b8')
              have HO := Lib.hid (HO.out.below b8' (Nat.le_refl _))
              have S8 := Lib.hid (show w8.heap.size = w7.heap.size + 1 from hw8 ▸ (by simp))
              rw [hw8]
              clear hw8 b8' BR7
              have FI := Lib.hid (fun g (hg : vi.ownBlock = some g) => (show b + 1 ≤ g ∧ g < wr.heap.size from U.out.i.lt g hg))
              have FP := Lib.hid (fun g (hg : vp.ownBlock = some g) => (show b + 1 ≤ g ∧ g < wr.heap.size from ⟨U.out.pb.2 g hg, U.out.pb.1 g hg⟩))
              have FN := Lib.hid (fun g (hg : vn.ownBlock = some g) => (show b + 1 ≤ g ∧ g < wr.heap.size from U.out.n.lt g hg))
              have FX := Lib.hid (fun g (hg : g ∈ X) => (show b + 1 ≤ g ∧ g < wr.heap.size from U.out.rg g hg))
              have U := Lib.hid (U.out.below BR.out)
              have BW := Lib.hid (below_then BW.out BR.out)
              have SL := Lib.hid (Nat.le_trans SL.out BR.out.size)
              have LB := Lib.hid (show b < b + 1 by omega)
              have CB := Lib.hid (CB.out w7.heap.size qa1 qa2 qa3 qa4 qa5 qm1 qm2 qm3 qm4 qm5)
              have QN := Lib.hid (HO.out.namesAt)
              obtain ⟨b9, hb9⟩ : ∃ x, w7.heap.size = x := ⟨_, rfl⟩
              rw [hb9] at K9 HO S8 S7 CB QN ⊢
              obtain ⟨b8, hb8'⟩ : ∃ x, wr.heap.size = x := ⟨_, rfl⟩
              rw [hb8'] at FI FP FN FX L8 S7 HO CB QN
              have L9 := Lib.hid (show b8 ≤ b9 from S7.out)
              have QN := Lib.hid (show NmAt6 b8 b9 qa3 qn w8 from ⟨QN.out, by have := S8.out; omega⟩)
              have HI := Lib.hid (show 0 < qi.length → ∃ g : Addr, qa1 = some g ∧ ∀ j u, (itCells qi)[j]? = some u → w8.cell? (g.add j) = some u from fun h => by
                have hQI := HO.out.itemsAt
                obtain ⟨g, off, rfl⟩ := items_some hQI h
                exact ⟨⟨g, off, none⟩, rfl, itCells_in hQI⟩)
              obtain ⟨ieI, hieI⟩ := infoIc
              obtain ⟨ieV, hieV⟩ := infoVc
              obtain ⟨k0, k1, k2, k3, k4, k5, k6, k7⟩ := vec8 KB.out
              obtain ⟨n0, n1, n2, n3, n4, n5, n6, n7⟩ := vec8 K9.out
              obtain ⟨g0, g1, g2, g3, g4, g5, g6, g7⟩ := free8 KB.out
              have hbw := (Array.getElem?_eq_some_iff.1 KB.out).1
              go_wp2_with (at_builtin; go_loud (refine wpList_appN (P := Tryd.prog) rfl _ _ 28 rfl (b + 1) ieI _ 3 32 Tryd.underlying28 hieI.1 hieI.2.1 hieI.2.2.1 hieI.2.2.2 rfl (by decide) vi (I i).length (itCells (I i)) rfl U.out.i qa1 qi.length qm1 (itCells qi) rfl (by rw [itCells_len]) HI.out (itCells_one qi) (by have := HQ.out.1; unfold maxLen; omega) (by have := HQ.out.1; omega) SL.out ?_))
              intro v10 w10 hO hg hM
              obtain ⟨si, ci2, rfl⟩ := row_form hO
              clear k0 k1 k2 k3 k4 k5 k6 k7 n0 n1 n2 n3 n4 n5 n6 n7 g0 g1 g2 g3 g4 g5 g6 g7 hbw
              have KR := Lib.hid (show w10.heap[w.heap.size]? = some (.cells #[.int .i64 0, .slice none 0 0, .slice none 0 0, .slice none 0 0, .slice none 0 0, .slice none 0 0, .int .i64 0, .int .i64 0] 31 (0, 0)) from (hg.block _ (Array.getElem?_eq_some_iff.1 KR.out).1 (fun e => by have := FI.out _ e.symm; have := LR.out; have := LB.out; have := L9.out; omega)).trans KR.out)
              have KB := Lib.hid (show w10.heap[b]? = some (.cells #[.int .i64 j, vi, vp, vn, .slice none 0 0, .slice none 0 0, .int .i64 0, .int .i64 0] 31 (0, 0)) from (hg.block _ (Array.getElem?_eq_some_iff.1 KB.out).1 (fun e => by have := FI.out _ e.symm; have := LR.out; have := LB.out; have := L9.out; omega)).trans KB.out)
              have K9 := Lib.hid (show w10.heap[b9]? = some (.cells #[.int .i64 qk, .slice qa1 qi.length qm1, .slice qa2 qp.length qm2, .slice qa3 qn.length qm3, .slice qa4 qc.length qm4, .slice qa5 ql.length qm5, .int .i64 qco, .int .i64 qe] 31 (0, 0)) from (hg.block _ (Array.getElem?_eq_some_iff.1 K9.out).1 (fun e => by have := FI.out _ e.symm; have := LR.out; have := LB.out; have := L9.out; omega)).trans K9.out)
              have HO := Lib.hid (HO.out.grown hg (by have := S8.out; omega) (fun g e => .inl (by have := FI.out g e; omega)))
              have QN := Lib.hid (QN.out.but (fun g h0 h1 => hg.block g (by have := S8.out; omega) (fun e => by have := FI.out g e.symm; omega)) (Nat.le_trans QN.out.le hg.size))
              have OX := Lib.hid (fun g (hg' : (Value.slice si ((I i).length + qi.length) ci2).ownBlock = some g) => (show g < b8 ∨ b9 < g from by
                rcases hM with e | ⟨g', e, hge⟩
                · rw [e] at hg'; exact .inl (FI.out g hg').2
                · rw [e] at hg'; have := Option.some.inj hg'; have := S8.out; exact .inr (by omega)))
              have U := Lib.hid (U.out.setI (items' := I i ++ qi) (by rw [List.length_append, itCells_app]; exact hO) hM (fun g _ hlt hne => hg.block g hlt (fun e => hne e.symm)) hg.size)
              have BW := Lib.hid (BW.out.grown hg BW.out.size (fun r hr => by have := FI.out r hr; have := LR.out; omega))
              have SL := Lib.hid (Nat.le_trans SL.out hg.size)
              have S10 := Lib.hid hg.size
              clear hO hg hM HI
              obtain ⟨ni, hni⟩ : ∃ x, (I i).length + qi.length = x := ⟨_, rfl⟩
              rw [hni] at U OX ⊢
              clear hni
              obtain ⟨k0, k1, k2, k3, k4, k5, k6, k7⟩ := vec8 KB.out
              obtain ⟨n0, n1, n2, n3, n4, n5, n6, n7⟩ := vec8 K9.out
              obtain ⟨g0, g1, g2, g3, g4, g5, g6, g7⟩ := free8 KB.out
              have hbw := (Array.getElem?_eq_some_iff.1 KB.out).1
              go_upto_region 22 with (fail)
              clear k0 k1 k2 k3 k4 k5 k6 k7 n0 n1 n2 n3 n4 n5 n6 n7 g0 g1 g2 g3 g4 g5 g6 g7 hbw
              obtain ⟨w11, hw⟩ : ∃ W, w10.setCell ⟨b, 1, none⟩ (.slice si ni ci2) = W := ⟨_, rfl⟩
              have KB' := Lib.hid (show w11.heap[b]? = some (.cells #[.int .i64 j, .slice si ni ci2, vp, vn, .slice none 0 0, .slice none 0 0, .int .i64 0, .int .i64 0] 31 (0, 0)) from hw ▸ Joins.block_setCell KB.out _)
              have KR := Lib.hid (show w11.heap[w.heap.size]? = some (.cells #[.int .i64 0, .slice none 0 0, .slice none 0 0, .slice none 0 0, .slice none 0 0, .slice none 0 0, .int .i64 0, .int .i64 0] 31 (0, 0)) from hw ▸ (Below.heap_setCell _ _ _ _ (show w.heap.size ≠ b by have := LR.out; have := LB.out; have := L9.out; have := L8.out; omega)).trans KR.out)
              have K9 := Lib.hid (show w11.heap[b9]? = some (.cells #[.int .i64 qk, .slice qa1 qi.length qm1, .slice qa2 qp.length qm2, .slice qa3 qn.length qm3, .slice qa4 qc.length qm4, .slice qa5 ql.length qm5, .int .i64 qco, .int .i64 qe] 31 (0, 0)) from hw ▸ (Below.heap_setCell _ _ _ _ (show b9 ≠ b by have := LR.out; have := LB.out; have := L9.out; have := L8.out; omega)).trans K9.out)
              have BW := Lib.hid (show Below w.heap.size w w11 from hw ▸ BW.out.setCell (p := ⟨b, 1, none⟩) (show w.heap.size ≤ b by have := LR.out; have := LB.out; omega) _)
              have U := Lib.hid (show Und (b + 1) w11 _ _ _ _ _ _ _ _ _ _ _ _ from hw ▸ U.out.put (show b < b + 1 by omega))
              have SL := Lib.hid (Nat.le_trans SL.out (show w10.heap.size ≤ w11.heap.size from hw ▸ (by simp)))
              have HO := Lib.hid (show Own (d + 1) (.mk qk qi qp qn qc ql qco qe) (.agg #[.int .i64 qk, .slice qa1 qi.length qm1, .slice qa2 qp.length qm2, .slice qa3 qn.length qm3, .slice qa4 qc.length qm4, .slice qa5 ql.length qm5, .int .i64 qco, .int .i64 qe]) b8 b9 w11 from hw ▸ HO.out.setLow (by have := L8.out; omega))
              have QN := Lib.hid (QN.out.but (w' := w11) (fun g h0 h1 => hw ▸ Below.heap_setCell _ _ _ _ (show g ≠ b by have := L8.out; omega)) (Nat.le_trans QN.out.le (show w10.heap.size ≤ w11.heap.size from hw ▸ (by simp))))
              have S11 := Lib.hid (show w10.heap.size ≤ w11.heap.size from hw ▸ (by simp))
              rw [hw]
              clear hw KB
              have KB := KB'
              clear KB'
              obtain ⟨vals2, Fs2, po⟩ := HO.out.parts
              obtain ⟨vals, Fs, v1, v2, v3, v4, v5⟩ := U.out.p.ex
              obtain ⟨k0, k1, k2, k3, k4, k5, k6, k7⟩ := vec8 KB.out
              obtain ⟨n0, n1, n2, n3, n4, n5, n6, n7⟩ := vec8 K9.out
              obtain ⟨g0, g1, g2, g3, g4, g5, g6, g7⟩ := free8 KB.out
              have hbw := (Array.getElem?_eq_some_iff.1 KB.out).1
              go_wp2_with (at_builtin; go_loud (refine wpList_appN (P := Tryd.prog) rfl _ _ 29 rfl (b + 1) ieV _ 8 144 Tryd.underlying29 hieV.1 hieV.2.1 hieV.2.2.1 hieV.2.2.2 rfl (by decide) vp (P i).length (vals.flatMap cl8) rfl v3 qa2 qp.length qm2 (vals2.flatMap cl8) rfl (by rw [flat8_len _ (RowV.is8 po.len po.own), po.len]) po.cells (flat_oneM po.len po.own) (by have := HQ.out.2; unfold maxLen; omega) (by have := HQ.out.2; omega) SL.out ?_))
              intro v12 w12 hO hg hM
              obtain ⟨sp, cp2, rfl⟩ := row_form hO
              clear k0 k1 k2 k3 k4 k5 k6 k7 n0 n1 n2 n3 n4 n5 n6 n7 g0 g1 g2 g3 g4 g5 g6 g7 hbw
              have KR := Lib.hid (show w12.heap[w.heap.size]? = some (.cells #[.int .i64 0, .slice none 0 0, .slice none 0 0, .slice none 0 0, .slice none 0 0, .slice none 0 0, .int .i64 0, .int .i64 0] 31 (0, 0)) from (hg.block _ (Array.getElem?_eq_some_iff.1 KR.out).1 (fun e => by have := FP.out _ e.symm; have := LR.out; have := LB.out; have := L9.out; omega)).trans KR.out)
              have KB := Lib.hid (show w12.heap[b]? = some (.cells #[.int .i64 j, .slice si ni ci2, vp, vn, .slice none 0 0, .slice none 0 0, .int .i64 0, .int .i64 0] 31 (0, 0)) from (hg.block _ (Array.getElem?_eq_some_iff.1 KB.out).1 (fun e => by have := FP.out _ e.symm; have := LR.out; have := LB.out; have := L9.out; omega)).trans KB.out)
              have K9 := Lib.hid (show w12.heap[b9]? = some (.cells #[.int .i64 qk, .slice qa1 qi.length qm1, .slice qa2 qp.length qm2, .slice qa3 qn.length qm3, .slice qa4 qc.length qm4, .slice qa5 ql.length qm5, .int .i64 qco, .int .i64 qe] 31 (0, 0)) from (hg.block _ (Array.getElem?_eq_some_iff.1 K9.out).1 (fun e => by have := FP.out _ e.symm; have := LR.out; have := LB.out; have := L9.out; omega)).trans K9.out)
              have hx7 : ∀ g ∈ Fs2.flatten, b8 ≤ g ∧ g < b9 := fun g hg' => po.rg g hg'
              have QN := Lib.hid (QN.out.but (fun g h0 h1 => hg.block g (by have := QN.out.le; omega) (fun e => by have := FP.out g e.symm; omega)) (Nat.le_trans QN.out.le hg.size))
              have U := Lib.hid (U.out.appQ v1 v2 v4 v5 po.len po.lenF po.own rfl po.nd (fun g hg' => by have := hx7 g hg'; have := L8.out; have := S8.out; have := S10.out; have := S11.out; omega) (fun g hg' hx => by have := hx7 g hg'; have := FX.out g hx; omega) (fun g e hx => by have := hx7 g hx; have := OX.out g e; omega) (fun g e hx => by have := hx7 g hx; have := FP.out g e; omega) (fun g e hx => by have := hx7 g hx; have := FN.out g e; omega) (fun _ e => by cases e) (fun _ e => by cases e) hO hM (fun g _ hlt hne => hg.block g hlt (fun e => hne e.symm)) hg.size)
              have BW := Lib.hid (BW.out.grown hg BW.out.size (fun r hr => by have := FP.out r hr; have := LR.out; omega))
              have SL := Lib.hid (Nat.le_trans SL.out hg.size)
              clear hO hg hM v1 v2 v3 v4 v5 po hx7
              obtain ⟨np, hnp⟩ : ∃ x, (P i).length + qp.length = x := ⟨_, rfl⟩
              rw [hnp] at U ⊢
              clear hnp
              obtain ⟨k0, k1, k2, k3, k4, k5, k6, k7⟩ := vec8 KB.out
              obtain ⟨n0, n1, n2, n3, n4, n5, n6, n7⟩ := vec8 K9.out
              obtain ⟨g0, g1, g2, g3, g4, g5, g6, g7⟩ := free8 KB.out
              have hbw := (Array.getElem?_eq_some_iff.1 KB.out).1
              go_upto_region 23 with (fail)
              clear k0 k1 k2 k3 k4 k5 k6 k7 n0 n1 n2 n3 n4 n5 n6 n7 g0 g1 g2 g3 g4 g5 g6 g7 hbw
              obtain ⟨w13, hw⟩ : ∃ W, w12.setCell ⟨b, 2, none⟩ (.slice sp np cp2) = W := ⟨_, rfl⟩
              have KB' := Lib.hid (show w13.heap[b]? = some (.cells #[.int .i64 j, .slice si ni ci2, .slice sp np cp2, vn, .slice none 0 0, .slice none 0 0, .int .i64 0, .int .i64 0] 31 (0, 0)) from hw ▸ Joins.block_setCell KB.out _)
              have KR := Lib.hid (show w13.heap[w.heap.size]? = some (.cells #[.int .i64 0, .slice none 0 0, .slice none 0 0, .slice none 0 0, .slice none 0 0, .slice none 0 0, .int .i64 0, .int .i64 0] 31 (0, 0)) from hw ▸ (Below.heap_setCell _ _ _ _ (show w.heap.size ≠ b by have := LR.out; have := LB.out; have := L9.out; have := L8.out; omega)).trans KR.out)
              have K9 := Lib.hid (show w13.heap[b9]? = some (.cells #[.int .i64 qk, .slice qa1 qi.length qm1, .slice qa2 qp.length qm2, .slice qa3 qn.length qm3, .slice qa4 qc.length qm4, .slice qa5 ql.length qm5, .int .i64 qco, .int .i64 qe] 31 (0, 0)) from hw ▸ (Below.heap_setCell _ _ _ _ (show b9 ≠ b by have := LR.out; have := LB.out; have := L9.out; have := L8.out; omega)).trans K9.out)
              have BW := Lib.hid (show Below w.heap.size w w13 from hw ▸ BW.out.setCell (p := ⟨b, 2, none⟩) (show w.heap.size ≤ b by have := LR.out; have := LB.out; omega) _)
              have U := Lib.hid (show Und (b + 1) w13 _ _ _ _ _ _ _ _ _ _ _ _ from hw ▸ U.out.put (show b < b + 1 by omega))
              have SL := Lib.hid (Nat.le_trans SL.out (show w12.heap.size ≤ w13.heap.size from hw ▸ (by simp)))
              have QN := Lib.hid (QN.out.but (w' := w13) (fun g h0 h1 => hw ▸ Below.heap_setCell _ _ _ _ (show g ≠ b by have := L8.out; omega)) (Nat.le_trans QN.out.le (show w12.heap.size ≤ w13.heap.size from hw ▸ (by simp))))
              rw [hw]
              clear hw KB
              have KB := KB'
              clear KB' HO
              obtain ⟨X2, hX2⟩ : ∃ X', X ++ Fs2.flatten = X' := ⟨_, rfl⟩
              rw [hX2] at U
              clear hX2
              have N8 := Lib.hid (fun g (hg : vn.ownBlock = some g) => (show g < b8 ∨ b9 < g from .inl (FN.out g hg).2))
              clear FI FP FX OX FN
              go_wp2
              go_loopw [13] (fun s wr => ∃ (q : Nat) (vn : Value), q ≤ Lq ∧ s = .int .i64 q ∧ Below w.heap.size w wr ∧ wr.heap[w.heap.size]? = some (.cells #[.int .i64 0, .slice none 0 0, .slice none 0 0, .slice none 0 0, .slice none 0 0, .slice none 0 0, .int .i64 0, .int .i64 0] 31 (0, 0)) ∧ wr.heap[b]? = some (.cells #[.int .i64 j, .slice si ni ci2, .slice sp np cp2, vn, .slice none 0 0, .slice none 0 0, .int .i64 0, .int .i64 0] 31 (0, 0)) ∧ wr.heap[b9]? = some (.cells #[.int .i64 qk, .slice qa1 qi.length qm1, .slice qa2 qp.length qm2, .slice qa3 qn.length qm3, .slice qa4 qc.length qm4, .slice qa5 ql.length qm5, .int .i64 qco, .int .i64 qe] 31 (0, 0)) ∧ b + 1 ≤ wr.heap.size ∧ (∀ g, vn.ownBlock = some g → g < b8 ∨ b9 < g) ∧ NmAt6 b8 b9 qa3 qn wr ∧ Und (b + 1) wr d (I i ++ qi) (P i ++ qp) (T i ++ NM q) [] [] (.slice si ni ci2) (.slice sp np cp2) vn (.slice none 0 0) (.slice none 0 0) X2) (fun i _ => Lq - (intOf i).toNat)
              case atStart => exact ⟨0, vn, Nat.zero_le _, rfl, BW.out, KR.out, KB.out, K9.out, SL.out, N8.out, QN.out, by rw [NM0.out, List.append_nil]; exact U.out⟩
              case round =>
                obtain ⟨q, vn, hq, rfl, hbw', hkr, hkb, hk9, hsl, hn9, hqn, hu⟩ := hrel
                have BW := Lib.hid hbw'
                have KR := Lib.hid hkr
                have KB := Lib.hid hkb
                have K9 := Lib.hid hk9
                have SL := Lib.hid hsl
                have FN9 := Lib.hid hn9
                have QN := Lib.hid hqn
                have U := Lib.hid hu
                clear hbw' hkr hkb hk9 hsl hn9 hqn hu N8
                obtain ⟨n0, n1, n2, n3, n4, n5, n6, n7⟩ := vec8 K9.out
                go_wp2_with fail
                refine (LP.out _).mono ?_
                rintro e wr2 ⟨rfl, b'⟩
                have BW := Lib.hid (below_then BW.out b')
                have KR := Lib.hid (blk_below b' KR.out)
                have KB := Lib.hid (blk_below b' KB.out)
                have K9 := Lib.hid (blk_below b' K9.out)
                have U := Lib.hid (U.out.below b')
                have QN := Lib.hid (QN.out.keep b')
                have SL := Lib.hid (Nat.le_trans SL.out b'.size)
                clear b' n0 n1 n2 n3 n4 n5 n6 n7
                by_cases hq2 : q < Lq
                · have LN := Lib.hid (show (T i ++ NM q).length ≤ 1048576 by rw [List.length_append, NML.out]; have := LE.out.2.2; omega)
                  have FAR := Lib.hid (fun g hg => (U.out.n.lt g hg).1)
                  have hl1 := (BW.out.cell (p := ⟨bn, offn + i, none⟩) hbnw).trans HCN.out
                  have hbnr : bn < wr2.heap.size := by have := BW.out.size; omega
                  have H := Lib.hid (show HeldC w wr2 ([(b9, 31, #[.int .i64 qk, .slice qa1 qi.length qm1, .slice qa2 qp.length qm2, .slice qa3 qn.length qm3, .slice qa4 qc.length qm4, .slice qa5 ql.length qm5, .int .i64 qco, .int .i64 qe]), (b, 31, #[.int .i64 j, .slice si ni ci2, .slice sp np cp2, vn, .slice none 0 0, .slice none 0 0, .int .i64 0, .int .i64 0])]) from heldC_cons (heldC_cons ⟨BW.out, (fun _ h => by cases h)⟩ KB.out) K9.out)
                  have KRW := KR
                  go_upto_region 29 with (fail)
                  refine run_region (ops := (opsOf Tryd.f14 29)) (S := fun w' => HeldC w w' ([(b9, 31, #[.int .i64 qk, .slice qa1 qi.length qm1, .slice qa2 qp.length qm2, .slice qa3 qn.length qm3, .slice qa4 qc.length qm4, .slice qa5 ql.length qm5, .int .i64 qco, .int .i64 qe]), (b, 31, #[.int .i64 j, .slice si ni ci2, .slice sp np cp2, vn, .slice none 0 0, .slice none 0 0, .int .i64 0, .int .i64 0])])) [(0, true), (1, true), (2, true), (3, true), (4, true), (5, false), (6, false), (7, false), (8, true), (9, false)] (by kernel_rfl) (by kernel_rfl) (by kernel_rfl) (by kernel_rfl) (by kernel_rfl) (fun _ _ _ _ _ h => h) (heldC_drew H.out) ?_
                  have H := Lib.hid (heldC_drew H.out)
                  have U := Lib.hid (U.out.keep (below_drew' (Below.refl _ _)))
                  have QN := Lib.hid (QN.out.keep (below_drew' (Below.refl _ _)))
                  refine runC_partV (b := b) (by kernel_rfl) (show opAt (opsOf Tryd.f14 29) 0 = some (some 106, .fieldAddr 31 (.tmp 9) 3, none) from by kernel_rfl) (by kernel_rfl) (by kernel_rfl) (by kernel_rfl) ?_
                  refine runC_cell (b := b) (j := 3) (v := vn) load_strs (show opAt (opsOf Tryd.f14 29) 1 = some (some 107, .load 24 (.tmp 106), none) from by kernel_rfl) (by kernel_rfl) (by kernel_rfl) (by kernel_rfl) (List.Mem.tail _ (List.Mem.head _)) rfl ?_
                  refine run_mov (v := .string lab) (show opAt (opsOf Tryd.f14 29) 2 = some (some 108, .move (.tmp 14), none) from by kernel_rfl) (by kernel_rfl) (by kernel_rfl) (by kernel_rfl) ?_
                  refine runC_vec (b := b9) (show opAt (opsOf Tryd.f14 29) 3 = some (some 109, .load 31 (.tmp 11), none) from by kernel_rfl) (by kernel_rfl) (by kernel_rfl) (by kernel_rfl) (List.Mem.head _) ?_
                  refine run_mov (v := .int .i64 ((q : Int))) (show opAt (opsOf Tryd.f14 29) 4 = some (some 110, .move (.tmp 13), none) from by kernel_rfl) (by kernel_rfl) (by kernel_rfl) (by kernel_rfl) ?_
                  refine run_call (args := [.string lab, .agg #[.int .i64 qk, .slice qa1 qi.length qm1, .slice qa2 qp.length qm2, .slice qa3 qn.length qm3, .slice qa4 qc.length qm4, .slice qa5 ql.length qm5, .int .i64 qco, .int .i64 qe], .int .i64 ((q : Int))]) (show opAt (opsOf Tryd.f14 29) 5 = some (some 111, .call { callee := .value (.func 38), args := [(.tmp 108), (.tmp 109), (.tmp 110)].toArray, argTypes := [9, 31, 3].toArray }, none) from by kernel_rfl) (by kernel_rfl) (by kernel_rfl) (by kernel_rfl) (by kernel_rfl) ?_
                  refine (CB.out q hq2 _ QN.out).mono ?_
                  rintro en rv1 ⟨rfl, hb⟩
                  refine ⟨_, rfl, heldC_call H.out hb, ?_⟩
                  have H := Lib.hid (heldC_call H.out hb)
                  have U := Lib.hid (U.out.below hb)
                  have KRW := Lib.hid (blk_below hb KRW.out)
                  have QN := Lib.hid (QN.out.keep hb)
                  clear hb
                  refine tail_txs3 (nm q) (show opAt (opsOf Tryd.f14 29) 6 = some (some 112, .buildSlice 24 1 #[(0, (.tmp 111))], none) from by kernel_rfl) (by kernel_rfl) (by kernel_rfl) (show opAt (opsOf Tryd.f14 29) 7 = some (some 113, .call { callee := .builtin .append, args := [(.tmp 107), (.tmp 112)].toArray, argTypes := [24, 24].toArray }, none) from by kernel_rfl) (by kernel_rfl) (fun _ => by kernel_rfl) (show opAt (opsOf Tryd.f14 29) 8 = some (some 114, .fieldAddr 31 (.tmp 9) 3, none) from by kernel_rfl) (by kernel_rfl) (by kernel_rfl) (fun _ _ => by kernel_rfl) (show opAt (opsOf Tryd.f14 29) 9 = some (none, .store 24 (.tmp 114) (.tmp 113), none) from by kernel_rfl) (by kernel_rfl) (by kernel_rfl) H.out U.out.n LN.out (Nat.succ_le_of_lt (Array.getElem?_eq_some_iff.1 (heldC_at H.out (List.Mem.tail _ (List.Mem.head _)))).1) W0.out (List.Mem.tail _ (List.Mem.head _)) rfl (Nat.lt_succ_self _) W1.out (fun q hq g hg e => by simp only [List.mem_cons, List.not_mem_nil, or_false] at hq; have h1 := FAR.out g hg; have h2 := FN9.out g hg; have h3 := L9.out; rcases hq with rfl | rfl; (simp only at e; omega); (simp only at e; omega)) ?_
                  rintro v' wz ⟨sa, sn, sc, rfl⟩ hK hO hB hZ hR hG
                  simp only [putAll, Act.put, List.setIfInBounds_toArray, List.set_cons_zero, List.set_cons_succ]
                  have KR1 := KRW.out
                  have hwr := (Array.getElem?_eq_some_iff.1 KR1).1
                  have K91 := heldC_at H.out (List.Mem.head _)
                  have hw9 := (Array.getElem?_eq_some_iff.1 K91).1
                  have U := Lib.hid (U.out.setN (names' := T i ++ NM (q + 1)) (by rw [NMS.out, ← List.append_assoc]; exact hO) hR (fun g hlo hg hne => hG g hg (by omega) hne) hZ)
                  have KR := Lib.hid (show wz.heap[w.heap.size]? = some (.cells #[.int .i64 0, .slice none 0 0, .slice none 0 0, .slice none 0 0, .slice none 0 0, .slice none 0 0, .int .i64 0, .int .i64 0] 31 (0, 0)) from (hG _ hwr (by have := LR.out; omega) (fun e => by have := FAR.out _ e; have := LR.out; omega)).trans KR1)
                  have K9 := Lib.hid (show wz.heap[b9]? = some (.cells #[.int .i64 qk, .slice qa1 qi.length qm1, .slice qa2 qp.length qm2, .slice qa3 qn.length qm3, .slice qa4 qc.length qm4, .slice qa5 ql.length qm5, .int .i64 qco, .int .i64 qe] 31 (0, 0)) from (hG _ hw9 (by have := L8.out; have := L9.out; omega) (fun e => by have := FN9.out _ e; have := L9.out; omega)).trans K91)
                  have QN := Lib.hid (QN.out.but (w' := wz) (fun g h0 h1 => hG g (by have := QN.out.le; omega) (by have := L8.out; omega) (fun e => by have := FN9.out _ e; omega)) (Nat.le_trans QN.out.le hZ))
                  have KB := Lib.hid (show wz.heap[b]? = some (.cells #[.int .i64 j, .slice si ni ci2, .slice sp np cp2, .slice sa sn sc, .slice none 0 0, .slice none 0 0, .int .i64 0, .int .i64 0] 31 (0, 0)) from hK)
                  have N9' := Lib.hid (fun g (e : (Value.slice sa sn sc).ownBlock = some g) => (show g < b8 ∨ b9 < g from by
                    rcases hR with e1 | ⟨g1, e1, hge⟩
                    · exact FN9.out g (e1 ▸ e)
                    · rw [e1] at e; have := Option.some.inj e; exact .inr (by omega)))
                  have SL := Lib.hid (Nat.succ_le_of_lt (Array.getElem?_eq_some_iff.1 KB.out).1)
                  have BW := Lib.hid hB
                  clear hK hO hB hZ hR hG H FAR LN KR1 hwr K91 hw9 KRW
                  go_wp2
                  go_roundw
                  case rel => exact ⟨q + 1, .slice sa sn sc, by omega, by go_num, BW.out, KR.out, KB.out, K9.out, SL.out, N9'.out, QN.out, U.out⟩
                  case measure => simp [intOf]; omega
                · obtain rfl : q = Lq := by omega
                  go_wp2
                  go_roundw
                  case rel => exact ⟨i + 1, .slice si ni ci2, .slice sp np cp2, vn, X2, by omega, by go_num, BW.out, KR.out, KB.out, SL.out, by rw [E1.out, E2.out, E3.out]; exact U.out⟩
                  case measure => simp [intOf]; omega
            · obtain rfl : i = k := by omega
              obtain ⟨si, ci2, rfl⟩ := row_form U.out.i
              obtain ⟨xs, hxs⟩ := U.out.p.row
              obtain ⟨sp, cp2, rfl⟩ := row_form hxs
              obtain ⟨sn, cn2, Fn, rfl, hot, _, hrt, _⟩ := txs_of_row U.out.n
              have LE := (LEN.out i (Nat.le_refl _)).2.2
              have CLN := Lib.hid (specCleanN j 0 0 si sp sn none none (I i).length ci2 (P i).length cp2 cn2 0 0 0 0 (T i) (b + 1) wr.heap.size wr (hot.at_ hrt) (Nat.le_refl _) (by omega))
              clear hxs hot hrt
              obtain ⟨k0, k1, k2, k3, k4, k5, k6, k7⟩ := vec8 KB.out
              go_wp2_with fail
              refine (CLN.out).mono ?_
              rintro e w15 ⟨b', hor⟩
              have BW := Lib.hid (below_then BW.out b')
              have KR := Lib.hid (blk_below b' KR.out)
              have U := Lib.hid (U.out.below b')
              clear k0 k1 k2 k3 k4 k5 k6 k7 CLN b'
              have O := Lib.hid (U.out.own j)
              rcases hor with ⟨hex, rfl⟩ | ⟨hem, g, hg, rfl⟩
              · have EN := Lib.hid (clnN_yes (l := T i) (by obtain ⟨m, h1, h2⟩ := hex; exact ⟨m, h1, fun h => h2 (empty_of_size h)⟩))
                have ER := Lib.hid (by have h := ER.out; rw [EN.out] at h; exact h)
                have O := Lib.hid (by have h := O.out; rw [← ER.out] at h; exact h)
                clear hex
                have FT := Lib.hid (specFit (d + 1) R _ 0 w15.heap.size w15 (O.out.vat (Nat.le_refl _)) (Nat.le_refl _) HZ.out)
                clear U EN
                go_wp2_with fail
                refine FT.out.mono ?_
                rintro e w17 ⟨b7, hor⟩
                have B7 := Lib.hid (below_then BW.out b7)
                have KR := Lib.hid (blk_below b7 KR.out)
                have O := Lib.hid (O.out.below b7 (Nat.le_refl _))
                have h76 := b7.size
                clear b7 FT
                rcases hor with ⟨hvr, rfl⟩ | ⟨hvr, rfl⟩
                · have XX := Lib.hid (XY.out hvr)
                  clear XY XN hvr
                  go_upto_region 31 with (fail)
                  obtain ⟨w18, hw18⟩ : ∃ W, w17.alloc (.cells #[.int .i64 j, .slice si (I i).length ci2, .slice sp (P i).length cp2, .slice sn (T i).length cn2, .slice none 0 0, .slice none 0 0, .int .i64 0, .int .i64 0] 31) = W := ⟨_, rfl⟩
                  have N8 := Lib.hid (show w18.heap[w17.heap.size]? = some (.cells #[.int .i64 j, .slice si (I i).length ci2, .slice sp (P i).length cp2, .slice sn (T i).length cn2, .slice none 0 0, .slice none 0 0, .int .i64 0, .int .i64 0] 31 (0, 0)) from hw18 ▸ blk_new w17 _ rfl)
                  have B78 := Lib.hid (show Below w17.heap.size w17 w18 from hw18 ▸ below1 w17 _)
                  have B8 := Lib.hid (below_then B7.out B78.out)
                  have KR := Lib.hid (blk_below B78.out KR.out)
                  have hs8 := B78.out.size
                  rw [hw18]
                  clear hw18
                  obtain ⟨n0, n1, n2, n3, n4, n5, n6, n7⟩ := vec8 N8.out
                  obtain ⟨z0, z1, z2, z3, z4, z5, z6, z7⟩ := vec8 KR.out
                  obtain ⟨f0, f1, f2, f3, f4, f5, f6, f7⟩ := free8 KR.out
                  go_wp2
                  rw [XX.out.1, XX.out.2]
                  exact vec_endS rfl rfl rfl rfl KR.out ⟨_, rfl, ((O.out.below B78.out (by omega)).put8 (by have := LR.out; omega) _ _ _ _ _ _ _ _).wide (by have := LR.out; omega) (by rw [put8_size]; omega), put8_below B8.out (Nat.le_refl _)⟩
                · have XX := Lib.hid (XN.out hvr)
                  clear XY XN hvr
                  go_upto_region 31 with (fail)
                  obtain ⟨w18, hw18⟩ : ∃ W, w17.alloc (.cells #[.int .i64 0, .slice none 0 0, .slice none 0 0, .slice none 0 0, .slice none 0 0, .slice none 0 0, .int .i64 0, .int .i64 0] 31) = W := ⟨_, rfl⟩
                  have N8 := Lib.hid (show w18.heap[w17.heap.size]? = some (.cells #[.int .i64 0, .slice none 0 0, .slice none 0 0, .slice none 0 0, .slice none 0 0, .slice none 0 0, .int .i64 0, .int .i64 0] 31 (0, 0)) from hw18 ▸ blk_new w17 _ rfl)
                  have B78 := Lib.hid (show Below w17.heap.size w17 w18 from hw18 ▸ below1 w17 _)
                  have B8 := Lib.hid (below_then B7.out B78.out)
                  have KR := Lib.hid (blk_below B78.out KR.out)
                  have hs8 := B78.out.size
                  rw [hw18]
                  clear hw18
                  obtain ⟨n0, n1, n2, n3, n4, n5, n6, n7⟩ := vec8 N8.out
                  obtain ⟨z0, z1, z2, z3, z4, z5, z6, z7⟩ := vec8 KR.out
                  obtain ⟨f0, f1, f2, f3, f4, f5, f6, f7⟩ := free8 KR.out
                  go_wp2
                  rw [XX.out.1, XX.out.2]
                  exact vec_endS rfl rfl rfl rfl KR.out (zeroSA _ _ w _ (put8_below B8.out (Nat.le_refl _)))
              · have EN := Lib.hid (clnN_no (l := T i) (fun ⟨m, h1, h2⟩ => h2 (show (txtS _ m).size = 0 by rw [hem m h1]; rfl)))
                have ER := Lib.hid (by have h := ER.out; rw [EN.out] at h; exact h)
                have O := Lib.hid (by have h := O.out.noNames (some ⟨g, 0, none⟩) 0; rw [← ER.out] at h; exact h)
                clear hem hg
                have FT := Lib.hid (specFit (d + 1) R _ 0 w15.heap.size w15 (O.out.vat (Nat.le_refl _)) (Nat.le_refl _) HZ.out)
                clear U EN
                go_wp2_with fail
                refine FT.out.mono ?_
                rintro e w17 ⟨b7, hor⟩
                have B7 := Lib.hid (below_then BW.out b7)
                have KR := Lib.hid (blk_below b7 KR.out)
                have O := Lib.hid (O.out.below b7 (Nat.le_refl _))
                have h76 := b7.size
                clear b7 FT
                rcases hor with ⟨hvr, rfl⟩ | ⟨hvr, rfl⟩
                · have XX := Lib.hid (XY.out hvr)
                  clear XY XN hvr
                  go_upto_region 31 with (fail)
                  obtain ⟨w18, hw18⟩ : ∃ W, w17.alloc (.cells #[.int .i64 j, .slice si (I i).length ci2, .slice sp (P i).length cp2, .slice (some ⟨g, 0, none⟩) 0 0, .slice none 0 0, .slice none 0 0, .int .i64 0, .int .i64 0] 31) = W := ⟨_, rfl⟩
                  have N8 := Lib.hid (show w18.heap[w17.heap.size]? = some (.cells #[.int .i64 j, .slice si (I i).length ci2, .slice sp (P i).length cp2, .slice (some ⟨g, 0, none⟩) 0 0, .slice none 0 0, .slice none 0 0, .int .i64 0, .int .i64 0] 31 (0, 0)) from hw18 ▸ blk_new w17 _ rfl)
                  have B78 := Lib.hid (show Below w17.heap.size w17 w18 from hw18 ▸ below1 w17 _)
                  have B8 := Lib.hid (below_then B7.out B78.out)
                  have KR := Lib.hid (blk_below B78.out KR.out)
                  have hs8 := B78.out.size
                  rw [hw18]
                  clear hw18
                  obtain ⟨n0, n1, n2, n3, n4, n5, n6, n7⟩ := vec8 N8.out
                  obtain ⟨z0, z1, z2, z3, z4, z5, z6, z7⟩ := vec8 KR.out
                  obtain ⟨f0, f1, f2, f3, f4, f5, f6, f7⟩ := free8 KR.out
                  go_wp2
                  rw [XX.out.1, XX.out.2]
                  exact vec_endS rfl rfl rfl rfl KR.out ⟨_, rfl, ((O.out.below B78.out (by omega)).put8 (by have := LR.out; omega) _ _ _ _ _ _ _ _).wide (by have := LR.out; omega) (by rw [put8_size]; omega), put8_below B8.out (Nat.le_refl _)⟩
                · have XX := Lib.hid (XN.out hvr)
                  clear XY XN hvr
                  go_upto_region 31 with (fail)
                  obtain ⟨w18, hw18⟩ : ∃ W, w17.alloc (.cells #[.int .i64 0, .slice none 0 0, .slice none 0 0, .slice none 0 0, .slice none 0 0, .slice none 0 0, .int .i64 0, .int .i64 0] 31) = W := ⟨_, rfl⟩
                  have N8 := Lib.hid (show w18.heap[w17.heap.size]? = some (.cells #[.int .i64 0, .slice none 0 0, .slice none 0 0, .slice none 0 0, .slice none 0 0, .slice none 0 0, .int .i64 0, .int .i64 0] 31 (0, 0)) from hw18 ▸ blk_new w17 _ rfl)
                  have B78 := Lib.hid (show Below w17.heap.size w17 w18 from hw18 ▸ below1 w17 _)
                  have B8 := Lib.hid (below_then B7.out B78.out)
                  have KR := Lib.hid (blk_below B78.out KR.out)
                  have hs8 := B78.out.size
                  rw [hw18]
                  clear hw18
                  obtain ⟨n0, n1, n2, n3, n4, n5, n6, n7⟩ := vec8 N8.out
                  obtain ⟨z0, z1, z2, z3, z4, z5, z6, z7⟩ := vec8 KR.out
                  obtain ⟨f0, f1, f2, f3, f4, f5, f6, f7⟩ := free8 KR.out
                  go_wp2
                  rw [XX.out.1, XX.out.2]
                  exact vec_endS rfl rfl rfl rfl KR.out (zeroSA _ _ w _ (put8_below B8.out (Nat.le_refl _)))
        · have XX := Lib.hid (XG.out ht)
          have hti : ¬ (tot : Int) ≤ 40 := by omega
          have hti2 : (40 : Int) < (tot : Int) := by omega
          clear ht XG XN XY HZ LEN
          obtain ⟨z0, z1, z2, z3, z4, z5, z6, z7⟩ := vec8 KR.out
          obtain ⟨f0, f1, f2, f3, f4, f5, f6, f7⟩ := free8 KR.out
          go_wp2
          rw [XX.out.1, XX.out.2]
          exact vec_endS rfl rfl rfl rfl KR.out (zeroSA _ _ w _ (put8_below BW.out (Nat.le_refl _)))
      · have XX := Lib.hid (XL.out (fun h => hlab ((LO.out.1 h).resolve_left (by have := HNL.out; omega))))
        have hg : ((N.length : Int) != (k : Int)) = true := by simp; omega
        clear hlab XG XN XY XL HZ OKC LEN LO
        obtain ⟨z0, z1, z2, z3, z4, z5, z6, z7⟩ := vec8 KR.out
        obtain ⟨f0, f1, f2, f3, f4, f5, f6, f7⟩ := free8 KR.out
        go_wp2
        rw [XX.out.1, XX.out.2]
        exact vec_endS rfl rfl rfl rfl KR.out (zeroSA _ _ w _ (put8_below BW.out (Nat.le_refl _)))
end Go.Proofs.YtddebgmjolojeaaDoor
