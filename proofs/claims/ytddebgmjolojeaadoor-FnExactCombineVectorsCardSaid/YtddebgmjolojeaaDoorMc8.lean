/- CombineVectors without labels: the program. -/
import Derived.Test.YtddebgmjolojeaaDoorRows
import Derived.Test.YtddebgmjolojeaaDoorMc4
import Derived.Test.YtddebgmjolojeaaDoorMc2
import Derived.Test.YtddebgmjolojeaaDoorMc3
import Derived.Maps.AppendAt
import Derived.WalkKit
import Derived.OwnWalk
import Derived.Deep.DeepCutAuto
import Derived.Lib.Hide
namespace Go.Proofs.YtddebgmjolojeaaDoor
open Go.RowKit
set_option maxRecDepth 100000
set_option linter.unusedVariables false

set_option maxHeartbeats 16000000 in
theorem implCombineF (d : Nat) (l : List Vec) (N : List ByteArray) (pa na : Option Addr) (pc nc lo hi : Nat) (w : World) (hP : VecsAt lo hi w d pa l) (hN : TextsAt lo hi w na N) (hhi : hi ≤ w.heap.size) (hsp : ∀ i, i < l.length → Small d (l.getD i noV)) (ll : l.length ≤ 1048576) (lN : N.length ≤ 1048576) (zN : ∀ s ∈ N, s.size ≤ 1048576)
    (hz : AllV l → LabOk l N → totL l l.length ≤ 40 → Small (d + 1) (cmR l N)) (tab : Lib.TabIs Tryd.prog w "internal/strconv.uint64pow10" .u64 Lib.pow10Tab) (hNl : N.length = 0) :
    Calls Tryd.prog 17 #[.slice pa l.length pc, .slice na N.length nc] w (ResVS (d + 1) (cmV l N) (cmS l N) w) := by
  have HNL := Lib.hid hNl
  clear hNl
  have CA := Lib.hid (fun (W : World) (hb : Below w.heap.size w W) => implAreL d l pa pc lo hi W (hP.below hb hhi) (Nat.le_trans hhi hb.size) hsp ll)
  have CT := Lib.hid (fun (h : AllV l) (W : World) (hb : Below w.heap.size w W) => implTotal d l pa pc lo hi W (hP.below hb hhi) (Nat.le_trans hhi hb.size) hsp ll h)
  have CK := Lib.hid (fun (W : World) (hb : Below w.heap.size w W) => implLatestL d l pa pc lo hi W (hP.below hb hhi) (Nat.le_trans hhi hb.size) hsp ll)
  have HP := Lib.hid (fun (k : Nat) (hk : k < l.length) (w1 : World) (hb : Below w.heap.size w w1) => (hP.below hb hhi).at_ hk)
  have HT := Lib.hid (fun (W : World) (hb : Below w.heap.size w W) => hN.below hb hhi)
  have TB := Lib.hid (fun (W : World) (hb : Below w.heap.size w W) => tab_below tab hb)
  have SMP := Lib.hid hsp
  have XB := Lib.hid (fun h => cm_bad (l := l) (N := N) h)
  have XL := Lib.hid (fun h h1 => cm_lab (l := l) (N := N) h h1)
  have XG := Lib.hid (fun h h1 h2 => cm_big (l := l) (N := N) h h1 h2)
  have XN := Lib.hid (fun h h1 h2 => cm_no (l := l) (N := N) h h1 h2)
  have XY := Lib.hid (fun h h1 h2 h3 => cm_yes (l := l) (N := N) h h1 h2 h3)
  have LO := Lib.hid (show LabOk l N ↔ (N.length = 0 ∨ N.length = l.length) from Iff.rfl)
  have HZ := Lib.hid hz
  have OKC := Lib.hid (fun (h : AllV l) i (hi : i < l.length) => cm_ok h hi)
  have EI := Lib.hid (fun i => (by exact rfl : cmI (cmK l) l (i + 1) = cmI (cmK l) l i ++ itmV (coeV (cmK l) (l.getD i noV))))
  have EP := Lib.hid (fun i => (by exact rfl : cmP (cmK l) l (i + 1) = cmP (cmK l) l i ++ partsV (coeV (cmK l) (l.getD i noV))))
  have ET := Lib.hid (fun i => (by exact rfl : cmT l N (i + 1) = cmT l N i ++ cmN (nmA N i) (l.getD i noV) (lengthV (l.getD i noV))))
  have LEN := Lib.hid (fun (h : AllV l) (hb : totL l l.length ≤ 40) i (hi : i ≤ l.length) => (by
    have h1 := cm_len h i hi
    have h2 := cmT_len l N i
    have h3 := totL_mono l i (l.length - i)
    rw [show i + (l.length - i) = l.length by omega] at h3
    omega : (cmI (cmK l) l i).length ≤ 40 ∧ (cmP (cmK l) l i).length ≤ 40 ∧ (cmT l N i).length ≤ 40))
  have NZ := Lib.hid (fun i => nmA_size zN i)
  have ER := Lib.hid (show cmR l N = .mk (cmK l) (cmI (cmK l) l l.length) (cmP (cmK l) l l.length) (clnN (cmT l N l.length)) [] [] 0 0 from rfl)
  have I0 := Lib.hid (show cmI (cmK l) l 0 = [] ∧ cmP (cmK l) l 0 = [] ∧ cmT l N 0 = [] from ⟨rfl, rfl, rfl⟩)
  have EK := Lib.hid (show latL l l.length = cmK l from rfl)
  obtain ⟨j, hj⟩ : ∃ j, cmK l = j := ⟨_, rfl⟩
  rw [hj] at OKC EI EP LEN ER I0 EK
  obtain ⟨I, hI⟩ : ∃ I : Nat → List It, cmI j l = I := ⟨_, rfl⟩
  obtain ⟨P, hP'⟩ : ∃ P : Nat → List Vec, cmP j l = P := ⟨_, rfl⟩
  obtain ⟨T, hT⟩ : ∃ T : Nat → List ByteArray, cmT l N = T := ⟨_, rfl⟩
  rw [hI] at EI LEN ER I0
  rw [hP'] at EP LEN ER I0
  rw [hT] at ET LEN ER I0
  obtain ⟨R, hR⟩ : ∃ R, cmR l N = R := ⟨_, rfl⟩
  rw [hR] at XN XY HZ ER
  obtain ⟨EV, hEV⟩ : ∃ y, cmV l N = y := ⟨_, rfl⟩
  obtain ⟨ES, hES⟩ : ∃ y, cmS l N = y := ⟨_, rfl⟩
  rw [hEV, hES] at XB XL XG XN XY ⊢
  obtain ⟨tot, htot⟩ : ∃ x, totL l l.length = x := ⟨_, rfl⟩
  rw [htot] at CT XG XY HZ LEN
  rw [EK.out] at CK
  obtain ⟨n, hn⟩ : ∃ x, l.length = x := ⟨_, rfl⟩
  rw [hn] at CA CT CK HP SMP LO OKC LEN ER ll ⊢
  clear hP hN hsp hz tab hj hI hP' hT hR hEV hES htot hn EK
  go_enter Tryd.func17, Tryd.ntmps17
  go_upto_region 1 with (fail)
  obtain ⟨w1, hw1⟩ : ∃ W, w.alloc (.cells #[.int .i64 0, .slice none 0 0, .slice none 0 0, .slice none 0 0, .slice none 0 0, .slice none 0 0, .int .i64 0, .int .i64 0] 31) = W := ⟨_, rfl⟩
  have B1 := Lib.hid (show Below w.heap.size w w1 from hw1 ▸ (below1 w _))
  have KR := Lib.hid (show w1.heap[w.heap.size]? = some (.cells #[.int .i64 0, .slice none 0 0, .slice none 0 0, .slice none 0 0, .slice none 0 0, .slice none 0 0, .int .i64 0, .int .i64 0] 31 (0, 0)) from hw1 ▸ blk_new w _ rfl)
  have Z1 := Lib.hid (show w1.heap.size = w.heap.size + 1 from hw1 ▸ (by simp))
  rw [hw1]
  clear hw1
  have LR0 := (Array.getElem?_eq_some_iff.1 KR.out).1
  go_wp2_with fail
  refine (CA.out _ B1.out).mono ?_
  rintro e w2 ⟨rfl, b'⟩
  have B2 := Lib.hid (below_then B1.out b')
  have KR := Lib.hid (blk_below b' KR.out)
  clear b' CA LR0
  by_cases q : AllV l
  · have CT := Lib.hid (CT.out q)
    have XL := Lib.hid (fun h1 => XL.out q h1)
    have XG := Lib.hid (fun h1 h2 => XG.out q h1 h2)
    have XN := Lib.hid (fun h1 h2 => XN.out q h1 h2)
    have XY := Lib.hid (fun h1 h2 h3 => XY.out q h1 h2 h3)
    have HZ := Lib.hid (fun h1 h2 => HZ.out q h1 h2)
    have OKC := Lib.hid (fun i hi => OKC.out q i hi)
    have LEN := Lib.hid (fun hb i hi => LEN.out q hb i hi)
    rw [bB_yes q]
    clear q XB
    by_cases hlab : N.length = 0 ∨ N.length = n
    · have HL := Lib.hid hlab
      have hlo := LO.out.2 hlab
      have XG := Lib.hid (fun h2 => XG.out hlo h2)
      have XN := Lib.hid (fun h2 => XN.out hlo h2)
      have XY := Lib.hid (fun h2 h3 => XY.out hlo h2 h3)
      have HZ := Lib.hid (fun h2 => HZ.out hlo h2)
      obtain ⟨lt0, ht0⟩ : ∃ t, decide (0 < (N.length : Int)) = t := ⟨_, rfl⟩
      have hg : lt0 = true → ((N.length : Int) != (n : Int)) = false := fun h => by
        rw [← ht0] at h
        have h := of_decide_eq_true h
        rcases hlab with e | e
        · omega
        · rw [e]; simp
      clear hlab hlo XL LO
      cases lt0 with
      | true =>
        have hg := hg rfl
        have hgt : (0 : Int) < (N.length : Int) := of_decide_eq_true ht0
        clear ht0
        exact (show False by have := HNL.out; omega).elim
      | false =>
        have hgt0 : ¬ (0 : Int) < (N.length : Int) := of_decide_eq_false ht0
        have hgt : (N.length : Int) ≤ 0 := by omega
        clear ht0 hg hgt0
        go_wp2_with fail
        refine (CT.out _ B2.out).mono ?_
        rintro e w3 ⟨rfl, b'⟩
        have B3 := Lib.hid (below_then B2.out b')
        have KR := Lib.hid (blk_below b' KR.out)
        clear b' CT
        by_cases ht : tot ≤ 40
        · have hti : (tot : Int) ≤ 40 := by omega
          have XN := Lib.hid (XN.out)
          have XY := Lib.hid (fun h3 => XY.out ht h3)
          have HZ := Lib.hid (HZ.out ht)
          have LEN := Lib.hid (fun i hi => LEN.out ht i hi)
          clear XG
          go_wp2_with fail
          refine (CK.out _ B3.out).mono ?_
          rintro e w4 ⟨rfl, b'⟩
          have B4 := Lib.hid (below_then B3.out b')
          have KR := Lib.hid (blk_below b' KR.out)
          clear b' CK ht hti
          have LR := Lib.hid (Array.getElem?_eq_some_iff.1 KR.out).1
          go_upto_region 8 with (fail)
          obtain ⟨w5, hw5⟩ : ∃ W, w4.alloc (.cells #[.int .i64 j, .slice none 0 0, .slice none 0 0, .slice none 0 0, .slice none 0 0, .slice none 0 0, .int .i64 0, .int .i64 0] 31) = W := ⟨_, rfl⟩
          have KB := Lib.hid (show w5.heap[w4.heap.size]? = some (.cells #[.int .i64 j, .slice none 0 0, .slice none 0 0, .slice none 0 0, .slice none 0 0, .slice none 0 0, .int .i64 0, .int .i64 0] 31 (0, 0)) from hw5 ▸ blk_new w4 _ rfl)
          have KR := Lib.hid (show w5.heap[w.heap.size]? = some (.cells #[.int .i64 0, .slice none 0 0, .slice none 0 0, .slice none 0 0, .slice none 0 0, .slice none 0 0, .int .i64 0, .int .i64 0] 31 (0, 0)) from hw5 ▸ blk_old KR.out)
          have B5 := Lib.hid (show Below w.heap.size w w5 from hw5 ▸ B4.out.alloc B4.out.size _)
          have S5 := Lib.hid (show w5.heap.size = w4.heap.size + 1 from hw5 ▸ (by simp))
          rw [hw5]
          clear hw5
          obtain ⟨b, hb⟩ : ∃ b, w4.heap.size = b := ⟨_, rfl⟩
          rw [hb] at KB LR S5 ⊢
          clear hb B4
          have U := Lib.hid (Und.start (b + 1) w5 d)
          have W0 := Lib.hid (show w.heap.size ≤ b + 1 by have := LR.out; omega)
          have W1 := Lib.hid (show w.heap.size ≤ b by have := LR.out; omega)
          go_wp2
          go_loopw [38] (fun i wr => ∃ (k : Nat) (vi vp vn : Value) (X : List Nat), k ≤ n ∧ i = .int .i64 k ∧ Below w.heap.size w wr ∧ wr.heap[w.heap.size]? = some (.cells #[.int .i64 0, .slice none 0 0, .slice none 0 0, .slice none 0 0, .slice none 0 0, .slice none 0 0, .int .i64 0, .int .i64 0] 31 (0, 0)) ∧ wr.heap[b]? = some (.cells #[.int .i64 j, vi, vp, vn, .slice none 0 0, .slice none 0 0, .int .i64 0, .int .i64 0] 31 (0, 0)) ∧ (b + 1) ≤ wr.heap.size ∧ Und (b + 1) wr d (I k) (P k) (T k) [] [] vi vp vn (.slice none 0 0) (.slice none 0 0) X) (fun i _ => n - (intOf i).toNat)
          case atStart => exact ⟨0, .slice none 0 0, .slice none 0 0, .slice none 0 0, [], Nat.zero_le _, rfl, B5.out, KR.out, KB.out, Nat.le_of_eq S5.out.symm, by rw [I0.out.1, I0.out.2.1, I0.out.2.2]; exact U.out⟩
          case round =>
            obtain ⟨i, vi, vp, vn, X, hk, rfl, hbw', hkr, hkb, hsl, hu⟩ := hrel
            have BW := Lib.hid hbw'
            have KR := Lib.hid hkr
            have KB := Lib.hid hkb
            have SL := Lib.hid hsl
            have L8 := Lib.hid hsl
            have U := Lib.hid hu
            clear hbw' hkr hkb hsl hu
            by_cases hlt : i < n
            · obtain ⟨bp, offp, c0, c1, c2, c3, c4, c5, c6, c7, rfl, hbp, hva, p0, p1, p2, p3, p4, p5, p6, p7⟩ := HP.out i hlt w (Below.refl _ _)
              have hbw0 : bp < w.heap.size := Nat.lt_of_lt_of_le hbp hhi
              have q0 := (BW.out.cell (p := ⟨bp, offp + i * 8, none⟩) hbw0).trans p0
              have q1 := (BW.out.cell (p := ⟨bp, offp + i * 8 + 1, none⟩) hbw0).trans p1
              have q2 := (BW.out.cell (p := ⟨bp, offp + i * 8 + 2, none⟩) hbw0).trans p2
              have q3 := (BW.out.cell (p := ⟨bp, offp + i * 8 + 3, none⟩) hbw0).trans p3
              have q4 := (BW.out.cell (p := ⟨bp, offp + i * 8 + 4, none⟩) hbw0).trans p4
              have q5 := (BW.out.cell (p := ⟨bp, offp + i * 8 + 5, none⟩) hbw0).trans p5
              have q6 := (BW.out.cell (p := ⟨bp, offp + i * 8 + 6, none⟩) hbw0).trans p6
              have q7 := (BW.out.cell (p := ⟨bp, offp + i * 8 + 7, none⟩) hbw0).trans p7
              clear p0 p1 p2 p3 p4 p5 p6 p7
              have hbr : bp < wr.heap.size := by have := BW.out.size; omega
              have OK := OKC.out i hlt
              have SMp := SMP.out i hlt
              have E1 := Lib.hid (EI.out i)
              have E2 := Lib.hid (EP.out i)
              have E3 := Lib.hid (ET.out i)
              have LE := Lib.hid (LEN.out i (Nat.le_of_lt hlt))
              have LE1 := LEN.out (i + 1) hlt
              rw [E1.out, E2.out, E3.out] at LE1
              obtain ⟨p, hp⟩ : ∃ p, l.getD i noV = p := ⟨_, rfl⟩
              rw [hp] at E1 E2 E3 OK SMp hva LE1
              have QS := coe_same OK
              have hr1 : 1 ≤ d := by cases d with
                | zero => exact SMp.elim
                | succ d => omega
              have CP := Lib.hid (fun (W : World) (hb : Below w.heap.size w W) => (implConvC d p j (.agg #[c0, c1, c2, c3, c4, c5, c6, c7]) lo hi W (hva.below hb hhi) (Nat.le_trans hhi hb.size) SMp OK (TB.out _ hb)).mono (fun e w' (h : _) => (by obtain ⟨y, e1, e2, e3⟩ := h; exact ⟨y, e1, Own.le (coeD_le hr1) e2, e3⟩ : ResV (d + 1) (coeV j p) W e w')))
              have NA := Lib.hid (fun (W : World) (hb : Below w.heap.size w W) => implNameAt N na nc lo hi i W (HT.out _ hb) (Nat.le_trans hhi hb.size) (fun h => by have := HL.out; omega) lN)
              obtain ⟨Q, hQ⟩ : ∃ Q, coeV j p = Q := ⟨_, rfl⟩
              rw [hQ] at CP E1 E2 LE1 QS
              have VP := OK.1
              obtain ⟨kk, items, parts, names, cls, levels, code, env⟩ := p
              obtain ⟨d', ai, ci, ap, cp, an, cn, ac, cc, al, cl, ed, e, hI, hNN, hC, hL, hPP⟩ := vecAt_open hva
              simp only [Value.agg.injEq, Array.mk.injEq, List.cons.injEq, and_true] at e
              obtain ⟨rfl, rfl, rfl, rfl, rfl, rfl, rfl, rfl⟩ := e
              have hf : FlatOk kk items parts.length names cls levels code env := VP.1.flat
              have hnk := hf.h_names
              have hln := hf.h_len
              obtain ⟨s1, s2, s3, _, _, _, s7, _⟩ := (show Small (d' + 1) (.mk kk items parts names cls levels code env) from ed ▸ SMp)
              have CB := Lib.hid (fun (q : Nat) (hq : q < lenV kk items.length parts.length) (W : World) (hb : Below w.heap.size w W) => implCmbN (nmA N i) kk items parts names cls levels code env ai ap an ac al ci cp cn cc cl lo hi q W (hNN.below hb hhi) (Nat.le_trans hhi hb.size) (fun h => by omega) s3 s1 s2 (by omega) (NZ.out i) s7 (TB.out _ hb))
              have LP := Lib.hid (fun (W : World) => implLen kk ai ap an ac al items.length ci parts.length cp names.length cn cls.length cc levels.length cl code env W s1 s2)
              have NMS := Lib.hid (fun q => (by exact rfl : cmN (nmA N i) (.mk kk items parts names cls levels code env) (q + 1) = cmN (nmA N i) (.mk kk items parts names cls levels code env) q ++ [cmbN (nmA N i) (nmA names q) (lenV kk items.length parts.length) q]))
              have NM0 := Lib.hid (show cmN (nmA N i) (.mk kk items parts names cls levels code env) 0 = [] from rfl)
              have NML := Lib.hid (cmN_len (nmA N i) (.mk kk items parts names cls levels code env))
              have E3 := Lib.hid (show T (i + 1) = T i ++ cmN (nmA N i) (.mk kk items parts names cls levels code env) (lenV kk items.length parts.length) from E3.out)
              obtain ⟨NM, hNM⟩ : ∃ f : Nat → List ByteArray, cmN (nmA N i) (.mk kk items parts names cls levels code env) = f := ⟨_, rfl⟩
              rw [hNM] at NMS NM0 NML E3
              obtain ⟨lab, hlab⟩ : ∃ s, nmA N i = s := ⟨_, rfl⟩
              rw [hlab] at NA CB NMS
              obtain ⟨nm, hnm⟩ : ∃ f : Nat → ByteArray, (fun q => cmbN lab (nmA names q) (lenV kk items.length parts.length) q) = f := ⟨_, rfl⟩
              have CB := Lib.hid (fun (q : Nat) hq (W : World) hb => (by have h := CB.out q hq W hb; rw [show cmbN lab (nmA names q) (lenV kk items.length parts.length) q = nm q from congrFun hnm q] at h; exact h : Calls Tryd.prog 46 #[.string lab, .agg #[.int .i64 kk, .slice ai items.length ci, .slice ap parts.length cp, .slice an names.length cn, .slice ac cls.length cc, .slice al levels.length cl, .int .i64 code, .int .i64 env], .int .i64 (q : Int)] W fun e w' => e = .returned (.string (nm q)) ∧ Below W.heap.size W w'))
              have NMS := Lib.hid (fun q => (by have h := NMS.out q; rw [show cmbN lab (nmA names q) (lenV kk items.length parts.length) q = nm q from congrFun hnm q] at h; exact h : NM (q + 1) = NM q ++ [nm q]))
              obtain ⟨Lp, hLp⟩ : ∃ x, lenV kk items.length parts.length = x := ⟨_, rfl⟩
              rw [hLp] at CB LP E3 hln
              obtain ⟨qk, qi, qp, qn, qc, ql, qco, qe⟩ := Q
              have E1 := Lib.hid (show I (i + 1) = I i ++ qi from E1.out)
              have E2 := Lib.hid (show P (i + 1) = P i ++ qp from E2.out)
              have LQ : (I i ++ qi).length ≤ 40 ∧ (P i ++ qp).length ≤ 40 := ⟨LE1.1, LE1.2.1⟩
              rw [List.length_append, List.length_append] at LQ
              have HQ := Lib.hid LQ
              clear hva hp SMp OK QS VP hI hC hL hPP hf hnk s1 s2 s3 s7 hNM hlab hnm hQ LE1 LQ hLp hNN ed
              go_upto_region 11 with (fail)
              obtain ⟨w6, hw6⟩ : ∃ W, wr.alloc (.cells #[.int .i64 kk, .slice ai items.length ci, .slice ap parts.length cp, .slice an names.length cn, .slice ac cls.length cc, .slice al levels.length cl, .int .i64 code, .int .i64 env] 31) = W := ⟨_, rfl⟩
              have b6 : Below wr.heap.size wr w6 := hw6 ▸ below1 wr _
              have K8 := Lib.hid (show w6.heap[wr.heap.size]? = some (.cells #[.int .i64 kk, .slice ai items.length ci, .slice ap parts.length cp, .slice an names.length cn, .slice ac cls.length cc, .slice al levels.length cl, .int .i64 code, .int .i64 env] 31 (0, 0)) from hw6 ▸ blk_new wr _ rfl)
              have KR := Lib.hid (blk_below b6 KR.out)
              have KB := Lib.hid (blk_below b6 KB.out)
              have S6 := Lib.hid (show w6.heap.size = wr.heap.size + 1 from hw6 ▸ (by simp))
              rw [hw6]
              clear hw6
              obtain ⟨a0, a1, a2, a3, a4, a5, a6, a7⟩ := vec8 K8.out
              obtain ⟨k0, k1, k2, k3, k4, k5, k6, k7⟩ := vec8 KB.out
              go_wp2_with fail
              refine (CP.out _ (below_then BW.out b6)).mono ?_
              rintro e w7 ⟨y, rfl, ho, b7⟩
              obtain ⟨d9, qa1, qm1, qa2, qm2, qa3, qm3, qa4, qm4, qa5, qm5, ed, rfl, hQI, _⟩ := vecAt_open (ho.vat (Nat.le_refl _))
              have BR7 := Lib.hid (below_then b6 b7)
              have KR := Lib.hid (blk_below b7 KR.out)
              have KB := Lib.hid (blk_below b7 KB.out)
              have K8 := Lib.hid (blk_below b7 K8.out)
              have HO := Lib.hid ho
              have S7 := Lib.hid b7.size
              clear ho b7 b6 a0 a1 a2 a3 a4 a5 a6 a7 k0 k1 k2 k3 k4 k5 k6 k7 ed CP hQI
              have hb8 : wr.heap.size < w7.heap.size := (Array.getElem?_eq_some_iff.1 K8.out).1
              go_upto_region 12 with (fail)
              obtain ⟨w8, hw8⟩ : ∃ W, w7.alloc (.cells #[.int .i64 qk, .slice qa1 qi.length qm1, .slice qa2 qp.length qm2, .slice qa3 qn.length qm3, .slice qa4 qc.length qm4, .slice qa5 ql.length qm5, .int .i64 qco, .int .i64 qe] 31) = W := ⟨_, rfl⟩
              have b8' : Below w7.heap.size w7 w8 := hw8 ▸ below1 w7 _
              have K9 := Lib.hid (show w8.heap[w7.heap.size]? = some (.cells #[.int .i64 qk, .slice qa1 qi.length qm1, .slice qa2 qp.length qm2, .slice qa3 qn.length qm3, .slice qa4 qc.length qm4, .slice qa5 ql.length qm5, .int .i64 qco, .int .i64 qe] 31 (0, 0)) from hw8 ▸ blk_new w7 _ rfl)
              have KR := Lib.hid (blk_below b8' KR.out)
              have KB := Lib.hid (blk_below b8' KB.out)
              have K8 := Lib.hid (blk_below b8' K8.out)
              have BR := Lib.hid (below_then BR7.out b8')
              have HO := Lib.hid (HO.out.below b8' (Nat.le_refl _))
              have S8 := Lib.hid (show w8.heap.size = w7.heap.size + 1 from hw8 ▸ (by simp))
              rw [hw8]
              clear hw8 b8' BR7
              have FI := Lib.hid (fun g (hg : vi.ownBlock = some g) => (show b + 1 ≤ g ∧ g < wr.heap.size from U.out.i.lt g hg))
              have FP := Lib.hid (fun g (hg : vp.ownBlock = some g) => (show b + 1 ≤ g ∧ g < wr.heap.size from ⟨U.out.pb.2 g hg, U.out.pb.1 g hg⟩))
              have FN := Lib.hid (fun g (hg : vn.ownBlock = some g) => (show b + 1 ≤ g ∧ g < wr.heap.size from U.out.n.lt g hg))
              have FX := Lib.hid (fun g (hg : g ∈ X) => (show b + 1 ≤ g ∧ g < wr.heap.size from U.out.rg g hg))
              have U := Lib.hid (U.out.below BR.out)
              have BW := Lib.hid (below_then BW.out BR.out)
              have SL := Lib.hid (Nat.le_trans SL.out BR.out.size)
              have LB := Lib.hid (show b < b + 1 by omega)
              obtain ⟨b9, hb9⟩ : ∃ x, w7.heap.size = x := ⟨_, rfl⟩
              rw [hb9] at K9 HO S8 hb8 S7 ⊢
              obtain ⟨b8, hb8'⟩ : ∃ x, wr.heap.size = x := ⟨_, rfl⟩
              rw [hb8'] at K8 FI FP FN FX L8 hb8 S6 ⊢
              have L9 := Lib.hid hb8
              have HI := Lib.hid (show 0 < qi.length → ∃ g : Addr, qa1 = some g ∧ ∀ j u, (itCells qi)[j]? = some u → w8.cell? (g.add j) = some u from fun h => by
                have hQI := HO.out.itemsAt
                obtain ⟨g, off, rfl⟩ := items_some hQI h
                exact ⟨⟨g, off, none⟩, rfl, itCells_in hQI⟩)
              obtain ⟨ieI, hieI⟩ := infoIc
              obtain ⟨ieV, hieV⟩ := infoVc
              obtain ⟨k0, k1, k2, k3, k4, k5, k6, k7⟩ := vec8 KB.out
              obtain ⟨n0, n1, n2, n3, n4, n5, n6, n7⟩ := vec8 K9.out
              obtain ⟨g0, g1, g2, g3, g4, g5, g6, g7⟩ := free8 KB.out
              have hbw := (Array.getElem?_eq_some_iff.1 KB.out).1
              go_wp2_with (at_builtin; go_loud (refine wpList_appN (P := Tryd.prog) rfl _ _ 28 rfl (b + 1) ieI _ 3 32 Tryd.underlying28 hieI.1 hieI.2.1 hieI.2.2.1 hieI.2.2.2 rfl (by decide) vi (I i).length (itCells (I i)) rfl U.out.i qa1 qi.length qm1 (itCells qi) rfl (by rw [itCells_len]) HI.out (itCells_one qi) (by have := HQ.out.1; unfold maxLen; omega) (by have := HQ.out.1; omega) SL.out ?_))
              intro v10 w10 hO hg hM
              obtain ⟨si, ci2, rfl⟩ := row_form hO
              clear k0 k1 k2 k3 k4 k5 k6 k7 n0 n1 n2 n3 n4 n5 n6 n7 g0 g1 g2 g3 g4 g5 g6 g7 hbw
              have KR := Lib.hid (show w10.heap[w.heap.size]? = some (.cells #[.int .i64 0, .slice none 0 0, .slice none 0 0, .slice none 0 0, .slice none 0 0, .slice none 0 0, .int .i64 0, .int .i64 0] 31 (0, 0)) from (hg.block _ (Array.getElem?_eq_some_iff.1 KR.out).1 (fun e => by have := FI.out _ e.symm; have := LR.out; have := LB.out; have := L8.out; have := L9.out; omega)).trans KR.out)
              have KB := Lib.hid (show w10.heap[b]? = some (.cells #[.int .i64 j, vi, vp, vn, .slice none 0 0, .slice none 0 0, .int .i64 0, .int .i64 0] 31 (0, 0)) from (hg.block _ (Array.getElem?_eq_some_iff.1 KB.out).1 (fun e => by have := FI.out _ e.symm; have := LR.out; have := LB.out; have := L8.out; have := L9.out; omega)).trans KB.out)
              have K8 := Lib.hid (show w10.heap[b8]? = some (.cells #[.int .i64 kk, .slice ai items.length ci, .slice ap parts.length cp, .slice an names.length cn, .slice ac cls.length cc, .slice al levels.length cl, .int .i64 code, .int .i64 env] 31 (0, 0)) from (hg.block _ (Array.getElem?_eq_some_iff.1 K8.out).1 (fun e => by have := FI.out _ e.symm; have := LR.out; have := LB.out; have := L8.out; have := L9.out; omega)).trans K8.out)
              have K9 := Lib.hid (show w10.heap[b9]? = some (.cells #[.int .i64 qk, .slice qa1 qi.length qm1, .slice qa2 qp.length qm2, .slice qa3 qn.length qm3, .slice qa4 qc.length qm4, .slice qa5 ql.length qm5, .int .i64 qco, .int .i64 qe] 31 (0, 0)) from (hg.block _ (Array.getElem?_eq_some_iff.1 K9.out).1 (fun e => by have := FI.out _ e.symm; have := LR.out; have := LB.out; have := L8.out; have := L9.out; omega)).trans K9.out)
              have HO := Lib.hid (HO.out.grown hg (by have := S8.out; omega) (fun g e => .inl (by have := FI.out g e; have := S6.out; omega)))
              have OX := Lib.hid (fun g (hg' : (Value.slice si ((I i).length + qi.length) ci2).ownBlock = some g) => (show g < b8 ∨ b9 < g from by
                rcases hM with e | ⟨g', e, hge⟩
                · rw [e] at hg'; exact .inl (FI.out g hg').2
                · rw [e] at hg'; have := Option.some.inj hg'; have := S8.out; exact .inr (by omega)))
              have U := Lib.hid (U.out.setI (items' := I i ++ qi) (by rw [List.length_append, itCells_app]; exact hO) hM (fun g _ hlt hne => hg.block g hlt (fun e => hne e.symm)) hg.size)
              have BW := Lib.hid (BW.out.grown hg BW.out.size (fun r hr => by have := FI.out r hr; have := LR.out; omega))
              have SL := Lib.hid (Nat.le_trans SL.out hg.size)
              have S10 := Lib.hid hg.size
              clear hO hg hM HI
              obtain ⟨ni, hni⟩ : ∃ x, (I i).length + qi.length = x := ⟨_, rfl⟩
              rw [hni] at U OX ⊢
              clear hni
              obtain ⟨k0, k1, k2, k3, k4, k5, k6, k7⟩ := vec8 KB.out
              obtain ⟨n0, n1, n2, n3, n4, n5, n6, n7⟩ := vec8 K9.out
              obtain ⟨g0, g1, g2, g3, g4, g5, g6, g7⟩ := free8 KB.out
              have hbw := (Array.getElem?_eq_some_iff.1 KB.out).1
              go_upto_region 13 with (fail)
              clear k0 k1 k2 k3 k4 k5 k6 k7 n0 n1 n2 n3 n4 n5 n6 n7 g0 g1 g2 g3 g4 g5 g6 g7 hbw
              obtain ⟨w11, hw⟩ : ∃ W, w10.setCell ⟨b, 1, none⟩ (.slice si ni ci2) = W := ⟨_, rfl⟩
              have KB' := Lib.hid (show w11.heap[b]? = some (.cells #[.int .i64 j, .slice si ni ci2, vp, vn, .slice none 0 0, .slice none 0 0, .int .i64 0, .int .i64 0] 31 (0, 0)) from hw ▸ Joins.block_setCell KB.out _)
              have KR := Lib.hid (show w11.heap[w.heap.size]? = some (.cells #[.int .i64 0, .slice none 0 0, .slice none 0 0, .slice none 0 0, .slice none 0 0, .slice none 0 0, .int .i64 0, .int .i64 0] 31 (0, 0)) from hw ▸ (Below.heap_setCell _ _ _ _ (show w.heap.size ≠ b by have := LR.out; have := LB.out; have := L8.out; have := L9.out; omega)).trans KR.out)
              have K8 := Lib.hid (show w11.heap[b8]? = some (.cells #[.int .i64 kk, .slice ai items.length ci, .slice ap parts.length cp, .slice an names.length cn, .slice ac cls.length cc, .slice al levels.length cl, .int .i64 code, .int .i64 env] 31 (0, 0)) from hw ▸ (Below.heap_setCell _ _ _ _ (show b8 ≠ b by have := LR.out; have := LB.out; have := L8.out; have := L9.out; omega)).trans K8.out)
              have K9 := Lib.hid (show w11.heap[b9]? = some (.cells #[.int .i64 qk, .slice qa1 qi.length qm1, .slice qa2 qp.length qm2, .slice qa3 qn.length qm3, .slice qa4 qc.length qm4, .slice qa5 ql.length qm5, .int .i64 qco, .int .i64 qe] 31 (0, 0)) from hw ▸ (Below.heap_setCell _ _ _ _ (show b9 ≠ b by have := LR.out; have := LB.out; have := L8.out; have := L9.out; omega)).trans K9.out)
              have BW := Lib.hid (show Below w.heap.size w w11 from hw ▸ BW.out.setCell (p := ⟨b, 1, none⟩) (show w.heap.size ≤ b by have := LR.out; have := LB.out; omega) _)
              have U := Lib.hid (show Und (b + 1) w11 _ _ _ _ _ _ _ _ _ _ _ _ from hw ▸ U.out.put (show b < (b + 1) by have := LB.out; omega))
              have SL := Lib.hid (Nat.le_trans SL.out (show w10.heap.size ≤ w11.heap.size from hw ▸ (by simp)))
              have HO := Lib.hid (show Own (d + 1) (.mk qk qi qp qn qc ql qco qe) (.agg #[.int .i64 qk, .slice qa1 qi.length qm1, .slice qa2 qp.length qm2, .slice qa3 qn.length qm3, .slice qa4 qc.length qm4, .slice qa5 ql.length qm5, .int .i64 qco, .int .i64 qe]) w6.heap.size b9 w11 from hw ▸ HO.out.setLow (by have := S6.out; have := L8.out; omega))
              have S11 := Lib.hid (show w10.heap.size ≤ w11.heap.size from hw ▸ (by simp))
              rw [hw]
              clear hw KB
              have KB := KB'
              clear KB'
              obtain ⟨vals2, Fs2, po⟩ := HO.out.parts
              obtain ⟨vals, Fs, v1, v2, v3, v4, v5⟩ := U.out.p.ex
              obtain ⟨k0, k1, k2, k3, k4, k5, k6, k7⟩ := vec8 KB.out
              obtain ⟨n0, n1, n2, n3, n4, n5, n6, n7⟩ := vec8 K9.out
              obtain ⟨g0, g1, g2, g3, g4, g5, g6, g7⟩ := free8 KB.out
              have hbw := (Array.getElem?_eq_some_iff.1 KB.out).1
              go_wp2_with (at_builtin; go_loud (refine wpList_appN (P := Tryd.prog) rfl _ _ 29 rfl (b + 1) ieV _ 8 144 Tryd.underlying29 hieV.1 hieV.2.1 hieV.2.2.1 hieV.2.2.2 rfl (by decide) vp (P i).length (vals.flatMap cl8) rfl v3 qa2 qp.length qm2 (vals2.flatMap cl8) rfl (by rw [flat8_len _ (RowV.is8 po.len po.own), po.len]) po.cells (flat_oneM po.len po.own) (by have := HQ.out.2; unfold maxLen; omega) (by have := HQ.out.2; omega) SL.out ?_))
              intro v12 w12 hO hg hM
              obtain ⟨sp, cp2, rfl⟩ := row_form hO
              clear k0 k1 k2 k3 k4 k5 k6 k7 n0 n1 n2 n3 n4 n5 n6 n7 g0 g1 g2 g3 g4 g5 g6 g7 hbw
              have KR := Lib.hid (show w12.heap[w.heap.size]? = some (.cells #[.int .i64 0, .slice none 0 0, .slice none 0 0, .slice none 0 0, .slice none 0 0, .slice none 0 0, .int .i64 0, .int .i64 0] 31 (0, 0)) from (hg.block _ (Array.getElem?_eq_some_iff.1 KR.out).1 (fun e => by have := FP.out _ e.symm; have := LR.out; have := LB.out; have := L8.out; have := L9.out; omega)).trans KR.out)
              have KB := Lib.hid (show w12.heap[b]? = some (.cells #[.int .i64 j, .slice si ni ci2, vp, vn, .slice none 0 0, .slice none 0 0, .int .i64 0, .int .i64 0] 31 (0, 0)) from (hg.block _ (Array.getElem?_eq_some_iff.1 KB.out).1 (fun e => by have := FP.out _ e.symm; have := LR.out; have := LB.out; have := L8.out; have := L9.out; omega)).trans KB.out)
              have K8 := Lib.hid (show w12.heap[b8]? = some (.cells #[.int .i64 kk, .slice ai items.length ci, .slice ap parts.length cp, .slice an names.length cn, .slice ac cls.length cc, .slice al levels.length cl, .int .i64 code, .int .i64 env] 31 (0, 0)) from (hg.block _ (Array.getElem?_eq_some_iff.1 K8.out).1 (fun e => by have := FP.out _ e.symm; have := LR.out; have := LB.out; have := L8.out; have := L9.out; omega)).trans K8.out)
              have K9 := Lib.hid (show w12.heap[b9]? = some (.cells #[.int .i64 qk, .slice qa1 qi.length qm1, .slice qa2 qp.length qm2, .slice qa3 qn.length qm3, .slice qa4 qc.length qm4, .slice qa5 ql.length qm5, .int .i64 qco, .int .i64 qe] 31 (0, 0)) from (hg.block _ (Array.getElem?_eq_some_iff.1 K9.out).1 (fun e => by have := FP.out _ e.symm; have := LR.out; have := LB.out; have := L8.out; have := L9.out; omega)).trans K9.out)
              have hx7 : ∀ g ∈ Fs2.flatten, b8 + 1 ≤ g ∧ g < b9 := fun g hg' => by have := po.rg g hg'; have := S6.out; omega
              have U := Lib.hid (U.out.appQ v1 v2 v4 v5 po.len po.lenF po.own rfl po.nd (fun g hg' => by have := hx7 g hg'; have := L8.out; have := S8.out; have := S10.out; have := S11.out; omega) (fun g hg' hx => by have := hx7 g hg'; have := FX.out g hx; omega) (fun g e hx => by have := hx7 g hx; have := OX.out g e; omega) (fun g e hx => by have := hx7 g hx; have := FP.out g e; omega) (fun g e hx => by have := hx7 g hx; have := FN.out g e; omega) (fun _ e => by cases e) (fun _ e => by cases e) hO hM (fun g _ hlt hne => hg.block g hlt (fun e => hne e.symm)) hg.size)
              have BW := Lib.hid (BW.out.grown hg BW.out.size (fun r hr => by have := FP.out r hr; have := LR.out; omega))
              have SL := Lib.hid (Nat.le_trans SL.out hg.size)
              clear hO hg hM v1 v2 v3 v4 v5 po hx7
              obtain ⟨np, hnp⟩ : ∃ x, (P i).length + qp.length = x := ⟨_, rfl⟩
              rw [hnp] at U ⊢
              clear hnp
              obtain ⟨k0, k1, k2, k3, k4, k5, k6, k7⟩ := vec8 KB.out
              obtain ⟨n0, n1, n2, n3, n4, n5, n6, n7⟩ := vec8 K9.out
              obtain ⟨g0, g1, g2, g3, g4, g5, g6, g7⟩ := free8 KB.out
              have hbw := (Array.getElem?_eq_some_iff.1 KB.out).1
              go_upto_region 14 with (fail)
              clear k0 k1 k2 k3 k4 k5 k6 k7 n0 n1 n2 n3 n4 n5 n6 n7 g0 g1 g2 g3 g4 g5 g6 g7 hbw
              obtain ⟨w13, hw⟩ : ∃ W, w12.setCell ⟨b, 2, none⟩ (.slice sp np cp2) = W := ⟨_, rfl⟩
              have KB' := Lib.hid (show w13.heap[b]? = some (.cells #[.int .i64 j, .slice si ni ci2, .slice sp np cp2, vn, .slice none 0 0, .slice none 0 0, .int .i64 0, .int .i64 0] 31 (0, 0)) from hw ▸ Joins.block_setCell KB.out _)
              have KR := Lib.hid (show w13.heap[w.heap.size]? = some (.cells #[.int .i64 0, .slice none 0 0, .slice none 0 0, .slice none 0 0, .slice none 0 0, .slice none 0 0, .int .i64 0, .int .i64 0] 31 (0, 0)) from hw ▸ (Below.heap_setCell _ _ _ _ (show w.heap.size ≠ b by have := LR.out; have := LB.out; have := L8.out; have := L9.out; omega)).trans KR.out)
              have K8 := Lib.hid (show w13.heap[b8]? = some (.cells #[.int .i64 kk, .slice ai items.length ci, .slice ap parts.length cp, .slice an names.length cn, .slice ac cls.length cc, .slice al levels.length cl, .int .i64 code, .int .i64 env] 31 (0, 0)) from hw ▸ (Below.heap_setCell _ _ _ _ (show b8 ≠ b by have := LR.out; have := LB.out; have := L8.out; have := L9.out; omega)).trans K8.out)
              have K9 := Lib.hid (show w13.heap[b9]? = some (.cells #[.int .i64 qk, .slice qa1 qi.length qm1, .slice qa2 qp.length qm2, .slice qa3 qn.length qm3, .slice qa4 qc.length qm4, .slice qa5 ql.length qm5, .int .i64 qco, .int .i64 qe] 31 (0, 0)) from hw ▸ (Below.heap_setCell _ _ _ _ (show b9 ≠ b by have := LR.out; have := LB.out; have := L8.out; have := L9.out; omega)).trans K9.out)
              have BW := Lib.hid (show Below w.heap.size w w13 from hw ▸ BW.out.setCell (p := ⟨b, 2, none⟩) (show w.heap.size ≤ b by have := LR.out; have := LB.out; omega) _)
              have U := Lib.hid (show Und (b + 1) w13 _ _ _ _ _ _ _ _ _ _ _ _ from hw ▸ U.out.put (show b < (b + 1) by have := LB.out; omega))
              have SL := Lib.hid (Nat.le_trans SL.out (show w12.heap.size ≤ w13.heap.size from hw ▸ (by simp)))
              rw [hw]
              clear hw KB
              have KB := KB'
              clear KB' K9 HO
              obtain ⟨X2, hX2⟩ : ∃ X', X ++ Fs2.flatten = X' := ⟨_, rfl⟩
              rw [hX2] at U
              clear hX2
              obtain ⟨a0, a1, a2, a3, a4, a5, a6, a7⟩ := vec8 K8.out
              go_wp2_with fail
              refine (LP.out _).mono ?_
              rintro e w14 ⟨rfl, b'⟩
              have BW := Lib.hid (below_then BW.out b')
              have KR := Lib.hid (blk_below b' KR.out)
              have KB := Lib.hid (blk_below b' KB.out)
              have K8 := Lib.hid (blk_below b' K8.out)
              have U := Lib.hid (U.out.below b')
              have SL := Lib.hid (Nat.le_trans SL.out b'.size)
              have N8 := Lib.hid (show vn.ownBlock ≠ some b8 from fun e => by have := FN.out _ e; omega)
              clear b' a0 a1 a2 a3 a4 a5 a6 a7 FI FP FX OX FN LP
              go_wp2
              go_loopw [61] (fun s wr => ∃ (q : Nat) (vn : Value), q ≤ Lp ∧ s = .int .i64 q ∧ Below w.heap.size w wr ∧ wr.heap[w.heap.size]? = some (.cells #[.int .i64 0, .slice none 0 0, .slice none 0 0, .slice none 0 0, .slice none 0 0, .slice none 0 0, .int .i64 0, .int .i64 0] 31 (0, 0)) ∧ wr.heap[b]? = some (.cells #[.int .i64 j, .slice si ni ci2, .slice sp np cp2, vn, .slice none 0 0, .slice none 0 0, .int .i64 0, .int .i64 0] 31 (0, 0)) ∧ wr.heap[b8]? = some (.cells #[.int .i64 kk, .slice ai items.length ci, .slice ap parts.length cp, .slice an names.length cn, .slice ac cls.length cc, .slice al levels.length cl, .int .i64 code, .int .i64 env] 31 (0, 0)) ∧ b + 1 ≤ wr.heap.size ∧ vn.ownBlock ≠ some b8 ∧ Und (b + 1) wr d (I i ++ qi) (P i ++ qp) (T i ++ NM q) [] [] (.slice si ni ci2) (.slice sp np cp2) vn (.slice none 0 0) (.slice none 0 0) X2) (fun i _ => Lp - (intOf i).toNat)
              case atStart => exact ⟨0, vn, Nat.zero_le _, rfl, BW.out, KR.out, KB.out, K8.out, SL.out, N8.out, by rw [NM0.out, List.append_nil]; exact U.out⟩
              case round =>
                obtain ⟨q, vn, hq, rfl, hbw', hkr, hkb, hk8, hsl, hn8, hu⟩ := hrel
                have BW := Lib.hid hbw'
                have KR := Lib.hid hkr
                have KB := Lib.hid hkb
                have K8 := Lib.hid hk8
                have SL := Lib.hid hsl
                have FN8 := Lib.hid hn8
                have U := Lib.hid hu
                clear hbw' hkr hkb hk8 hsl hn8 hu
                by_cases hq2 : q < Lp
                · have LN := Lib.hid (show (T i ++ NM q).length ≤ 1048576 by rw [List.length_append, NML.out]; have := LE.out.2.2; omega)
                  have FAR := Lib.hid (fun g hg => (U.out.n.lt g hg).1)
                  have H := Lib.hid (show HeldC w wr ([(b8, 31, #[.int .i64 kk, .slice ai items.length ci, .slice ap parts.length cp, .slice an names.length cn, .slice ac cls.length cc, .slice al levels.length cl, .int .i64 code, .int .i64 env]), (b, 31, #[.int .i64 j, .slice si ni ci2, .slice sp np cp2, vn, .slice none 0 0, .slice none 0 0, .int .i64 0, .int .i64 0])]) from heldC_cons (heldC_cons ⟨BW.out, (fun _ h => by cases h)⟩ KB.out) K8.out)
                  have KRW := KR
                  go_upto_region 17 with (fail)
                  refine run_region (ops := (opsOf Tryd.f17 17)) (S := fun w' => HeldC w w' ([(b8, 31, #[.int .i64 kk, .slice ai items.length ci, .slice ap parts.length cp, .slice an names.length cn, .slice ac cls.length cc, .slice al levels.length cl, .int .i64 code, .int .i64 env]), (b, 31, #[.int .i64 j, .slice si ni ci2, .slice sp np cp2, vn, .slice none 0 0, .slice none 0 0, .int .i64 0, .int .i64 0])])) [(0, true), (1, true), (2, true), (3, true), (5, true), (6, true), (4, false), (7, false), (8, false), (9, false), (10, true), (11, false)] (by kernel_rfl) (by kernel_rfl) (by kernel_rfl) (by kernel_rfl) (by kernel_rfl) (fun _ _ _ _ _ h => h) (heldC_drew H.out) ?_
                  have H := Lib.hid (heldC_drew H.out)
                  have U := Lib.hid (U.out.keep (below_drew' (Below.refl _ _)))
                  refine runC_partV (b := b) (by kernel_rfl) (show opAt (opsOf Tryd.f17 17) 0 = some (some 64, .fieldAddr 31 (.tmp 6) 3, none) from by kernel_rfl) (by kernel_rfl) (by kernel_rfl) (by kernel_rfl) ?_
                  refine runC_cell (b := b) (j := 3) (v := vn) load_strs (show opAt (opsOf Tryd.f17 17) 1 = some (some 65, .load 24 (.tmp 64), none) from by kernel_rfl) (by kernel_rfl) (by kernel_rfl) (by kernel_rfl) (List.Mem.tail _ (List.Mem.head _)) rfl ?_
                  refine run_mov (v := .slice na N.length nc) (show opAt (opsOf Tryd.f17 17) 2 = some (some 66, .move (.tmp 1), none) from by kernel_rfl) (by kernel_rfl) (by kernel_rfl) (by kernel_rfl) ?_
                  refine run_mov (v := .int .i64 ((i : Int))) (show opAt (opsOf Tryd.f17 17) 3 = some (some 67, .move (.tmp 7), none) from by kernel_rfl) (by kernel_rfl) (by kernel_rfl) (by kernel_rfl) ?_
                  refine runC_vec (b := b8) (show opAt (opsOf Tryd.f17 17) 5 = some (some 69, .load 31 (.tmp 8), none) from by kernel_rfl) (by kernel_rfl) (by kernel_rfl) (by kernel_rfl) (List.Mem.head _) ?_
                  refine run_mov (v := .int .i64 ((q : Int))) (show opAt (opsOf Tryd.f17 17) 6 = some (some 70, .move (.tmp 10), none) from by kernel_rfl) (by kernel_rfl) (by kernel_rfl) (by kernel_rfl) ?_
                  refine run_call (args := [.slice na N.length nc, .int .i64 ((i : Int))]) (show opAt (opsOf Tryd.f17 17) 4 = some (some 68, .call { callee := .value (.func 47), args := [(.tmp 66), (.tmp 67)].toArray, argTypes := [24, 3].toArray }, none) from by kernel_rfl) (by kernel_rfl) (by kernel_rfl) (by kernel_rfl) (by kernel_rfl) ?_
                  refine (NA.out _ H.out.1).mono ?_
                  rintro en rv1 ⟨rfl, hb⟩
                  refine ⟨_, rfl, heldC_call H.out hb, ?_⟩
                  have H := Lib.hid (heldC_call H.out hb)
                  have U := Lib.hid (U.out.below hb)
                  have KRW := Lib.hid (blk_below hb KRW.out)
                  clear hb
                  refine run_call (args := [.string lab, .agg #[.int .i64 kk, .slice ai items.length ci, .slice ap parts.length cp, .slice an names.length cn, .slice ac cls.length cc, .slice al levels.length cl, .int .i64 code, .int .i64 env], .int .i64 ((q : Int))]) (show opAt (opsOf Tryd.f17 17) 7 = some (some 71, .call { callee := .value (.func 46), args := [(.tmp 68), (.tmp 69), (.tmp 70)].toArray, argTypes := [9, 31, 3].toArray }, none) from by kernel_rfl) (by kernel_rfl) (by kernel_rfl) (by kernel_rfl) (by kernel_rfl) ?_
                  refine (CB.out q hq2 _ H.out.1).mono ?_
                  rintro en rv2 ⟨rfl, hb⟩
                  refine ⟨_, rfl, heldC_call H.out hb, ?_⟩
                  have H := Lib.hid (heldC_call H.out hb)
                  have U := Lib.hid (U.out.below hb)
                  have KRW := Lib.hid (blk_below hb KRW.out)
                  clear hb
                  refine tail_txs3 (nm q) (show opAt (opsOf Tryd.f17 17) 8 = some (some 72, .buildSlice 24 1 #[(0, (.tmp 71))], none) from by kernel_rfl) (by kernel_rfl) (by kernel_rfl) (show opAt (opsOf Tryd.f17 17) 9 = some (some 73, .call { callee := .builtin .append, args := [(.tmp 65), (.tmp 72)].toArray, argTypes := [24, 24].toArray }, none) from by kernel_rfl) (by kernel_rfl) (fun _ => by kernel_rfl) (show opAt (opsOf Tryd.f17 17) 10 = some (some 74, .fieldAddr 31 (.tmp 6) 3, none) from by kernel_rfl) (by kernel_rfl) (by kernel_rfl) (fun _ _ => by kernel_rfl) (show opAt (opsOf Tryd.f17 17) 11 = some (none, .store 24 (.tmp 74) (.tmp 73), none) from by kernel_rfl) (by kernel_rfl) (by kernel_rfl) H.out U.out.n LN.out (Nat.succ_le_of_lt (Array.getElem?_eq_some_iff.1 (heldC_at H.out (List.Mem.tail _ (List.Mem.head _)))).1) W0.out (List.Mem.tail _ (List.Mem.head _)) rfl (Nat.lt_succ_self _) W1.out (fun q hq g hg e => by simp only [List.mem_cons, List.not_mem_nil, or_false] at hq; have h1 := FAR.out g hg; have h2 := FN8.out; rcases hq with rfl | rfl; (simp only at e; rw [e] at h2; exact h2 hg); (simp only at e; omega)) ?_
                  rintro v' wz ⟨sa, sn, sc, rfl⟩ hK hO hB hZ hR hG
                  simp only [putAll, Act.put, List.setIfInBounds_toArray, List.set_cons_zero, List.set_cons_succ]
                  have KR1 := KRW.out
                  have hwr := (Array.getElem?_eq_some_iff.1 KR1).1
                  have K81 := heldC_at H.out (List.Mem.head _)
                  have hw8 := (Array.getElem?_eq_some_iff.1 K81).1
                  have U := Lib.hid (U.out.setN (names' := T i ++ NM (q + 1)) (by rw [NMS.out, ← List.append_assoc]; exact hO) hR (fun g hlo hg hne => hG g hg (by omega) hne) hZ)
                  have KR := Lib.hid (show wz.heap[w.heap.size]? = some (.cells #[.int .i64 0, .slice none 0 0, .slice none 0 0, .slice none 0 0, .slice none 0 0, .slice none 0 0, .int .i64 0, .int .i64 0] 31 (0, 0)) from (hG _ hwr (by have := LR.out; omega) (fun e => by have := FAR.out _ e; have := LR.out; omega)).trans KR1)
                  have K8 := Lib.hid (show wz.heap[b8]? = some (.cells #[.int .i64 kk, .slice ai items.length ci, .slice ap parts.length cp, .slice an names.length cn, .slice ac cls.length cc, .slice al levels.length cl, .int .i64 code, .int .i64 env] 31 (0, 0)) from (hG _ hw8 (by have := L8.out; omega) FN8.out).trans K81)
                  have KB := Lib.hid (show wz.heap[b]? = some (.cells #[.int .i64 j, .slice si ni ci2, .slice sp np cp2, .slice sa sn sc, .slice none 0 0, .slice none 0 0, .int .i64 0, .int .i64 0] 31 (0, 0)) from hK)
                  have N8' := Lib.hid (show (Value.slice sa sn sc).ownBlock ≠ some b8 from fun e => by
                    rcases hR with e1 | ⟨g, e1, hge⟩
                    · exact FN8.out (e1 ▸ e)
                    · rw [e1] at e; have := Option.some.inj e; omega)
                  have SL := Lib.hid (Nat.le_trans (Nat.succ_le_of_lt (Array.getElem?_eq_some_iff.1 KB.out).1) (Nat.le_refl _))
                  have BW := Lib.hid hB
                  clear hK hO hB hZ hR hG H FAR LN KR1 hwr K81 hw8 KRW
                  go_wp2
                  go_roundw
                  case rel => exact ⟨q + 1, .slice sa sn sc, by omega, by go_num, BW.out, KR.out, KB.out, K8.out, SL.out, N8'.out, U.out⟩
                  case measure => simp [intOf]; omega
                · obtain rfl : q = Lp := by omega
                  go_wp2
                  go_roundw
                  case rel => exact ⟨i + 1, .slice si ni ci2, .slice sp np cp2, vn, X2, by omega, by go_num, BW.out, KR.out, KB.out, SL.out, by rw [E1.out, E2.out, E3.out]; exact U.out⟩
                  case measure => simp [intOf]; omega
            · obtain rfl : i = n := by omega
              obtain ⟨si, ci2, rfl⟩ := row_form U.out.i
              obtain ⟨xs, hxs⟩ := U.out.p.row
              obtain ⟨sp, cp2, rfl⟩ := row_form hxs
              obtain ⟨sn, cn2, Fn, rfl, hot, _, hrt, _⟩ := txs_of_row U.out.n
              have LE := (LEN.out i (Nat.le_refl _)).2.2
              have KN := Lib.hid (implKnownN (T i) sn cn2 (b + 1) wr.heap.size wr (hot.at_ hrt) (by omega))
              clear hxs hot hrt
              obtain ⟨k0, k1, k2, k3, k4, k5, k6, k7⟩ := vec8 KB.out
              go_wp2_with fail
              refine (KN.out).mono ?_
              rintro e w15 ⟨hkn, rfl⟩
              clear k0 k1 k2 k3 k4 k5 k6 k7 KN
              have O := Lib.hid (U.out.own j)
              rcases hkn with ⟨ek, rfl⟩ | ⟨ek, rfl⟩
              · have ER := Lib.hid (by have h := ER.out; rw [ek] at h; exact h)
                have O := Lib.hid (show Own (d + 1) R (.agg #[.int .i64 j, .slice si (I i).length ci2, .slice sp (P i).length cp2, .slice sn (T i).length cn2, .slice none 0 0, .slice none 0 0, .int .i64 0, .int .i64 0]) (b + 1) wr.heap.size wr from by rw [ER.out]; exact O.out)
                obtain ⟨k0, k1, k2, k3, k4, k5, k6, k7⟩ := vec8 KB.out
                obtain ⟨g0, g1, g2, g3, g4, g5, g6, g7⟩ := free8 KB.out
                have hbw := (Array.getElem?_eq_some_iff.1 KB.out).1
                go_upto_region 21 with (fail)
                clear k0 k1 k2 k3 k4 k5 k6 k7 g0 g1 g2 g3 g4 g5 g6 g7 hbw
                obtain ⟨w16, hw⟩ : ∃ W, wr.setCell ⟨b, 3, none⟩ (.slice sn (T i).length cn2) = W := ⟨_, rfl⟩
                have KB := Lib.hid (show w16.heap[b]? = some (.cells #[.int .i64 j, .slice si (I i).length ci2, .slice sp (P i).length cp2, .slice sn (T i).length cn2, .slice none 0 0, .slice none 0 0, .int .i64 0, .int .i64 0] 31 (0, 0)) from hw ▸ Joins.block_setCell KB.out _)
                have KR := Lib.hid (show w16.heap[w.heap.size]? = some (.cells #[.int .i64 0, .slice none 0 0, .slice none 0 0, .slice none 0 0, .slice none 0 0, .slice none 0 0, .int .i64 0, .int .i64 0] 31 (0, 0)) from hw ▸ (Below.heap_setCell _ _ _ _ (show w.heap.size ≠ b by have := LR.out; omega)).trans KR.out)
                have BW := Lib.hid (show Below w.heap.size w w16 from hw ▸ BW.out.setCell (p := ⟨b, 3, none⟩) (show w.heap.size ≤ b by have := LR.out; omega) _)
                have S16 := Lib.hid (show w16.heap.size = wr.heap.size from hw ▸ (by simp))
                have O := Lib.hid (show Own (d + 1) R (.agg #[.int .i64 j, .slice si (I i).length ci2, .slice sp (P i).length cp2, .slice sn (T i).length cn2, .slice none 0 0, .slice none 0 0, .int .i64 0, .int .i64 0]) (b + 1) w16.heap.size w16 from by rw [S16.out]; exact hw ▸ O.out.setLow (by omega))
                rw [hw]
                clear hw S16
                have FT := Lib.hid (implFit (d + 1) R _ 0 w16.heap.size w16 (O.out.vat (Nat.le_refl _)) (Nat.le_refl _) HZ.out)
                obtain ⟨k0, k1, k2, k3, k4, k5, k6, k7⟩ := vec8 KB.out
                go_wp2_with fail
                refine (FT.out).mono ?_
                rintro e w17 ⟨b', hor⟩
                have hr17 := (Array.getElem?_eq_some_iff.1 KR.out).1
                have KR := Lib.hid (blk_below b' KR.out)
                have BW := Lib.hid (below_then BW.out b')
                have O := Lib.hid (O.out.below b' (Nat.le_refl _))
                have S17 := Lib.hid b'.size
                clear b' FT k0 k1 k2 k3 k4 k5 k6 k7
                rcases hor with ⟨hv, rfl⟩ | ⟨hn, rfl⟩
                · have XX := Lib.hid (XY.out hv)
                  clear hv XY XN
                  obtain ⟨z0, z1, z2, z3, z4, z5, z6, z7⟩ := vec8 KR.out
                  obtain ⟨f0, f1, f2, f3, f4, f5, f6, f7⟩ := free8 KR.out
                  go_wp2
                  rw [XX.out.1, XX.out.2]
                  exact vec_endS rfl rfl rfl rfl KR.out ⟨_, rfl, (O.out.put8 (by have := LR.out; omega) _ _ _ _ _ _ _ _).wide (by have := LR.out; omega) (by rw [put8_size]; exact S17.out), put8_below BW.out (Nat.le_refl _)⟩
                · have XX := Lib.hid (XN.out hn)
                  clear hn XY XN
                  obtain ⟨z0, z1, z2, z3, z4, z5, z6, z7⟩ := vec8 KR.out
                  obtain ⟨f0, f1, f2, f3, f4, f5, f6, f7⟩ := free8 KR.out
                  go_wp2
                  rw [XX.out.1, XX.out.2]
                  exact vec_endS rfl rfl rfl rfl KR.out (zeroSA _ _ w _ (put8_below BW.out (Nat.le_refl _)))
              · have ER := Lib.hid (by have h := ER.out; rw [ek] at h; exact h)
                have O := Lib.hid (show Own (d + 1) R (.agg #[.int .i64 j, .slice si (I i).length ci2, .slice sp (P i).length cp2, .slice none 0 0, .slice none 0 0, .slice none 0 0, .int .i64 0, .int .i64 0]) (b + 1) wr.heap.size wr from by rw [ER.out]; exact Own.noNames O.out none 0)
                obtain ⟨k0, k1, k2, k3, k4, k5, k6, k7⟩ := vec8 KB.out
                obtain ⟨g0, g1, g2, g3, g4, g5, g6, g7⟩ := free8 KB.out
                have hbw := (Array.getElem?_eq_some_iff.1 KB.out).1
                go_upto_region 21 with (fail)
                clear k0 k1 k2 k3 k4 k5 k6 k7 g0 g1 g2 g3 g4 g5 g6 g7 hbw
                obtain ⟨w16, hw⟩ : ∃ W, wr.setCell ⟨b, 3, none⟩ (.slice none 0 0) = W := ⟨_, rfl⟩
                have KB := Lib.hid (show w16.heap[b]? = some (.cells #[.int .i64 j, .slice si (I i).length ci2, .slice sp (P i).length cp2, .slice none 0 0, .slice none 0 0, .slice none 0 0, .int .i64 0, .int .i64 0] 31 (0, 0)) from hw ▸ Joins.block_setCell KB.out _)
                have KR := Lib.hid (show w16.heap[w.heap.size]? = some (.cells #[.int .i64 0, .slice none 0 0, .slice none 0 0, .slice none 0 0, .slice none 0 0, .slice none 0 0, .int .i64 0, .int .i64 0] 31 (0, 0)) from hw ▸ (Below.heap_setCell _ _ _ _ (show w.heap.size ≠ b by have := LR.out; omega)).trans KR.out)
                have BW := Lib.hid (show Below w.heap.size w w16 from hw ▸ BW.out.setCell (p := ⟨b, 3, none⟩) (show w.heap.size ≤ b by have := LR.out; omega) _)
                have S16 := Lib.hid (show w16.heap.size = wr.heap.size from hw ▸ (by simp))
                have O := Lib.hid (show Own (d + 1) R (.agg #[.int .i64 j, .slice si (I i).length ci2, .slice sp (P i).length cp2, .slice none 0 0, .slice none 0 0, .slice none 0 0, .int .i64 0, .int .i64 0]) (b + 1) w16.heap.size w16 from by rw [S16.out]; exact hw ▸ O.out.setLow (by omega))
                rw [hw]
                clear hw S16
                have FT := Lib.hid (implFit (d + 1) R _ 0 w16.heap.size w16 (O.out.vat (Nat.le_refl _)) (Nat.le_refl _) HZ.out)
                obtain ⟨k0, k1, k2, k3, k4, k5, k6, k7⟩ := vec8 KB.out
                go_wp2_with fail
                refine (FT.out).mono ?_
                rintro e w17 ⟨b', hor⟩
                have hr17 := (Array.getElem?_eq_some_iff.1 KR.out).1
                have KR := Lib.hid (blk_below b' KR.out)
                have BW := Lib.hid (below_then BW.out b')
                have O := Lib.hid (O.out.below b' (Nat.le_refl _))
                have S17 := Lib.hid b'.size
                clear b' FT k0 k1 k2 k3 k4 k5 k6 k7
                rcases hor with ⟨hv, rfl⟩ | ⟨hn, rfl⟩
                · have XX := Lib.hid (XY.out hv)
                  clear hv XY XN
                  obtain ⟨z0, z1, z2, z3, z4, z5, z6, z7⟩ := vec8 KR.out
                  obtain ⟨f0, f1, f2, f3, f4, f5, f6, f7⟩ := free8 KR.out
                  go_wp2
                  rw [XX.out.1, XX.out.2]
                  exact vec_endS rfl rfl rfl rfl KR.out ⟨_, rfl, (O.out.put8 (by have := LR.out; omega) _ _ _ _ _ _ _ _).wide (by have := LR.out; omega) (by rw [put8_size]; exact S17.out), put8_below BW.out (Nat.le_refl _)⟩
                · have XX := Lib.hid (XN.out hn)
                  clear hn XY XN
                  obtain ⟨z0, z1, z2, z3, z4, z5, z6, z7⟩ := vec8 KR.out
                  obtain ⟨f0, f1, f2, f3, f4, f5, f6, f7⟩ := free8 KR.out
                  go_wp2
                  rw [XX.out.1, XX.out.2]
                  exact vec_endS rfl rfl rfl rfl KR.out (zeroSA _ _ w _ (put8_below BW.out (Nat.le_refl _)))
        · have XX := Lib.hid (XG.out ht)
          have hti : ¬ (tot : Int) ≤ 40 := by omega
          have hti2 : (40 : Int) < (tot : Int) := by omega
          clear ht XG XN XY HZ LEN
          obtain ⟨z0, z1, z2, z3, z4, z5, z6, z7⟩ := vec8 KR.out
          obtain ⟨f0, f1, f2, f3, f4, f5, f6, f7⟩ := free8 KR.out
          go_wp2
          rw [XX.out.1, XX.out.2]
          exact vec_endS rfl rfl rfl rfl KR.out (zeroSA _ _ w _ (put8_below B3.out (Nat.le_refl _)))
    · have XX := Lib.hid (XL.out (fun h => hlab (LO.out.1 h)))
      have hgt : (0 : Int) < (N.length : Int) := by omega
      have hg : ((N.length : Int) != (n : Int)) = true := by simp; omega
      clear hlab XG XN XY XL HZ OKC LEN LO
      obtain ⟨z0, z1, z2, z3, z4, z5, z6, z7⟩ := vec8 KR.out
      obtain ⟨f0, f1, f2, f3, f4, f5, f6, f7⟩ := free8 KR.out
      go_wp2
      rw [XX.out.1, XX.out.2]
      exact vec_endS rfl rfl rfl rfl KR.out (zeroSA _ _ w _ (put8_below B2.out (Nat.le_refl _)))
  · have XX := Lib.hid (XB.out q)
    rw [bB_no q]
    clear q XG XN XY XL HZ OKC LEN LO XB
    obtain ⟨z0, z1, z2, z3, z4, z5, z6, z7⟩ := vec8 KR.out
    obtain ⟨f0, f1, f2, f3, f4, f5, f6, f7⟩ := free8 KR.out
    go_wp2
    rw [XX.out.1, XX.out.2]
    exact vec_endS rfl rfl rfl rfl KR.out (zeroSA _ _ w _ (put8_below B2.out (Nat.le_refl _)))
end Go.Proofs.YtddebgmjolojeaaDoor
