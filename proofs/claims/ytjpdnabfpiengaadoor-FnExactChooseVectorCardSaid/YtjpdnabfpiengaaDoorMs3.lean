/- ChooseVector of the reference. -/
import Derived.Test.YtjpdnabfpiengaaDoorRows
import Derived.Test.YtjpdnabfpiengaaDoorMs2
import Derived.Test.YtjpdnabfpiengaaDoorMs1
import Derived.WalkKit
import Derived.OwnWalk
import Derived.Deep.DeepCutAuto
import Derived.Lib.Hide
namespace Go.Proofs.YtjpdnabfpiengaaDoor
open Go.RowKit
set_option maxRecDepth 100000
set_option linter.unusedVariables false

/-- A row of texts of one's own. -/
theorem row_txs {w : World} {B : Nat} {v : Value} {l : List ByteArray} (h : w.ownsRow B 9 1 v l.length (l.map Value.string)) :
    ∃ na nc FF, v = .slice na l.length nc ∧ OwnTxs w na l FF ∧ FF.Nodup ∧ (∀ g ∈ FF, B ≤ g ∧ g < w.heap.size ∧ v.ownBlock = some g) ∧ l.length ≤ nc := by
  by_cases hp : 0 < l.length
  · obtain ⟨g, c, rfl, ho, h1, h2, h3⟩ := own_of_row hp h
    exact ⟨_, c, [g], rfl, ho, by simp, fun b hb => by obtain rfl := List.mem_singleton.1 hb; exact ⟨h1, h2, rfl⟩, h3⟩
  · have e : l = [] := List.eq_nil_of_length_eq_zero (by omega)
    subst e
    obtain ⟨_, ⟨e, _⟩ | ⟨g, cap, cur, e, _⟩⟩ := h
    · exact ⟨none, 0, [], e, .inl ⟨rfl, rfl⟩, by simp, (fun _ h => by cases h), Nat.zero_le _⟩
    · exact ⟨some ⟨g, 0, none⟩, cap, [], e, .inl ⟨rfl, rfl⟩, by simp, (fun _ h => by cases h), Nat.zero_le _⟩
theorem row_int {w : World} {B : Nat} {sa : Option Addr} {n c : Nat} {f : Nat → Int} (h : w.ownsRow B 3 1 (.slice sa n c) n (intsF f n)) {k : Nat} (hk : k < n) :
    ∃ g C, sa = some ⟨g, 0, none⟩ ∧ B ≤ g ∧ w.heap[g]? = some (.cells C 3 (0, 0)) ∧ C[k]? = some (.int .i64 (f k)) := by
  obtain ⟨_, h⟩ := h
  rcases h with ⟨e, h0⟩ | ⟨g, cap, cur, e, hg, hb, hc, _, hs, ht⟩
  · simp only [Value.slice.injEq] at e; omega
  · simp only [Value.slice.injEq] at e
    obtain ⟨rfl, _, rfl⟩ := e
    refine ⟨g, cur, rfl, hg, hb, ?_⟩
    have h1 : (cur.toList.take (n * 1))[k]? = (intsF f n)[k]? := by rw [ht]
    rw [List.getElem?_take_of_lt (by omega), Array.getElem?_toList] at h1
    rw [h1]; unfold intsF; simp [hk]
section
variable {ops : Array Oper} {Q : Exit → Act → World → Prop} {S : World → Prop}
variable {r : List (Nat × Bool)} {a : Act} {e : List (Nat × Value)} {w : World} {i d : Nat} {g : Option (Nat × Bool)} {v : Value}
/-- A slice of no texts. -/
theorem run_mk0T (ho : opAt ops i = some (some d, .buildSlice 24 0 #[], g)) (hd : Nat.blt d a.tmps.size = true) (hw : wantE ops a e g = some true)
    (h : ∀ W n, W = w.alloc (.cells #[] 9) → n = w.heap.size → S W ∧ RunE Tryd.prog ops Q S r a ((d, .slice (some ⟨n, 0, none⟩) 0 0) :: e) W) : RunE Tryd.prog ops Q S ((i, false) :: r) a e w := by
  obtain ⟨hS, hR⟩ := h _ _ rfl rfl
  obtain ⟨ie, hie, _⟩ := info_parts infoStr
  refine run_eff (op := .buildSlice 24 0 #[]) ho hd hw (fun o h1 => ?_) hS hR
  unfold execOp
  have hb := run_buildSlice0 (P := Tryd.prog) w 24 9 ie Tryd.underlying24 hie
  simp only [h1, List.map_toArray, List.map_nil, Sem.run_bind, hb, Result.andThen_ok]
  rfl
theorem build_i0 {w : World} : (Instr.build 56 #[]).run Tryd.prog w = .ok (.agg #[.int .i64 0, .int .i64 0, .string ⟨#[]⟩]) w := by
  kernel_rfl
theorem run_bldI0 (ho : opAt ops i = some (some d, .build 56 #[], g)) (hd : Nat.blt d a.tmps.size = true) (hw : wantE ops a e g = some true)
    (h : RunE Tryd.prog ops Q S r a ((d, .agg #[.int .i64 0, .int .i64 0, .string ⟨#[]⟩]) :: e) w) : RunE Tryd.prog ops Q S ((i, true) :: r) a e w :=
  run_yield ho hd hw (fun o w' h1 _ => by
    unfold execOp
    simp only [h1, List.map_toArray, List.map_nil]
    exact run_v build_i0) h
end
/-- What is chosen in round i, as the reference makes it. -/
def chG (items0 : List It) (K1 K2 M : Int) (X1 X2 : List It) (i : Nat) : It := chsI (truthI (items0.getD i noI)) (cnvI K1 M (X1.getD (i % X1.length) noI)) (cnvI K2 M (X2.getD (i % X2.length) noI))
theorem chG_eq {t y n : Vec} (h1 : 0 < (itemsV y).length) (h2 : 0 < (itemsV n).length) (M : Int) :
    chF t (chP y M) (chP n M) = chG (itemsV t) (plnK (kindV y) (levV y)) (plnK (kindV n) (levV n)) M (plnL (levV y) (itemsV y)) (plnL (levV n) (itemsV n)) := by
  funext i
  unfold chF chG chP
  have e1 : 0 < (plnL (levV y) (itemsV y)).length := by rw [plnL_len]; exact h1
  have e2 : 0 < (plnL (levV n) (itemsV n)).length := by rw [plnL_len]; exact h2
  rw [cnvL_len, cnvL_len, cnvL_at (Nat.mod_lt i e1), cnvL_at (Nat.mod_lt i e2)]
set_option maxHeartbeats 16000000 in
theorem specChoose (d0 d1 d2 : Nat) (t y n : Vec) (vt vy vn : Value) (lo hi : Nat) (w : World) (h0 : VecAt lo hi w d0 t vt) (h1 : VecAt lo hi w d1 y vy) (h2 : VecAt lo hi w d2 n vn) (hhi : hi ≤ w.heap.size) (hsm0 : Small d0 t) (hsm1 : Small d1 y) (hsm2 : Small d2 n) :
    Calls Tryd.prog 26 #[vt, vy, vn] w (ResVS 1 (chV t y n) (chS t y n) w) := by
  have C0 := Lib.hid (fun (w1 : World) (hb : Below w.heap.size w w1) => specIsVector d0 t vt lo hi w1 (h0.below hb hhi) (Nat.le_trans hhi hb.size) hsm0)
  have C1 := Lib.hid (fun (w1 : World) (hb : Below w.heap.size w w1) => specIsVector d1 y vy lo hi w1 (h1.below hb hhi) (Nat.le_trans hhi hb.size) hsm1)
  have C2 := Lib.hid (fun (w1 : World) (hb : Below w.heap.size w w1) => specIsVector d2 n vn lo hi w1 (h2.below hb hhi) (Nat.le_trans hhi hb.size) hsm2)
  have PC1 := Lib.hid (fun (oy : AtmOk (kindV y) (itemsV y) (levV y)) (W : World) (hb : Below w.heap.size w W) => (by
    obtain ⟨kk, items, parts, names, cls, levels, code, env⟩ := y
    exact specPlain d1 kk items parts names cls levels code env vy lo hi W (h1.below hb hhi) (Nat.le_trans hhi hb.size) oy : Calls Tryd.prog 30 #[vy] W (ResV 1 (vecOf (plnK (kindV y) (levV y)) (plnL (levV y) (itemsV y))) W)))
  have PC2 := Lib.hid (fun (oy : AtmOk (kindV n) (itemsV n) (levV n)) (W : World) (hb : Below w.heap.size w W) => (by
    obtain ⟨kk, items, parts, names, cls, levels, code, env⟩ := n
    exact specPlain d2 kk items parts names cls levels code env vn lo hi W (h2.below hb hhi) (Nat.le_trans hhi hb.size) oy : Calls Tryd.prog 30 #[vn] W (ResV 1 (vecOf (plnK (kindV n) (levV n)) (plnL (levV n) (itemsV n))) W)))
  obtain ⟨TT, hTT⟩ : ∃ V, t = V := ⟨_, rfl⟩
  obtain ⟨YY, hYY⟩ : ∃ V, y = V := ⟨_, rfl⟩
  obtain ⟨NN, hNN⟩ : ∃ V, n = V := ⟨_, rfl⟩
  rw [hTT] at C0
  rw [hYY] at C1 PC1
  rw [hNN] at C2 PC2
  rw [hTT, hYY, hNN]
  obtain ⟨k0, items0, parts0, names0, cls0, lev0, code0, env0⟩ := t
  obtain ⟨d0', ai0, ci0, ap0, cp0, an0, cn0, ac0, cc0, al0, cl0, ed0, rfl, hI0, hN0, hC0, hL0, hP0⟩ := vecAt_open h0
  obtain ⟨k1, items1, parts1, names1, cls1, lev1, code1, env1⟩ := y
  obtain ⟨d1', ai1, ci1, ap1, cp1, an1, cn1, ac1, cc1, al1, cl1, ed1, rfl, hI1, hN1, hC1, hL1, hP1⟩ := vecAt_open h1
  obtain ⟨k2, items2, parts2, names2, cls2, lev2, code2, env2⟩ := n
  obtain ⟨d2', ai2, ci2, ap2, cp2, an2, cn2, ac2, cc2, al2, cl2, ed2, rfl, hI2, hN2, hC2, hL2, hP2⟩ := vecAt_open h2
  have ln : names0.length ≤ 1048576 := by subst ed0; exact hsm0.2.2.1
  have li : items0.length ≤ 1048576 := by subst ed0; exact hsm0.1
  have NI := Lib.hid (fun (W : World) (hb : Below w.heap.size w W) (hp : 0 < names0.length) => show ∃ ad : Addr, an0 = some ad ∧ ∀ j u, (names0.map Value.string)[j]? = some u → W.cell? (ad.add j) = some u from by
    have h := hN0.below hb hhi
    obtain ⟨b, off, rfl⟩ := texts_some h hp
    exact ⟨_, rfl, news_cells h⟩)
  have SL := Lib.hid (fun (w1 : World) (hb : Below w.heap.size w w1) (hk : k0 ≤ 2) (hl : lev0.length = 0) (hit : ∀ i, i < items0.length → NumIt (items0.getD i noI)) => specLogY k0 items0 ai0 ap0 an0 ac0 al0 ci0 parts0.length cp0 names0.length cn0 cls0.length cc0 lev0.length cl0 code0 env0 lo hi w1 (hI0.below hb hhi) (Nat.le_trans hhi hb.size) hk hl li hit)
  have SLN := Lib.hid (fun (w1 : World) (hb : Below w.heap.size w w1) (h : ¬ (k0 ≤ 2 ∧ lev0.length = 0)) => specLogN k0 ai0 ap0 an0 ac0 al0 items0.length ci0 parts0.length cp0 names0.length cn0 cls0.length cc0 lev0.length cl0 code0 env0 w1 h)
  have EK1 := Lib.hid (show kindV YY = k1 by rw [← hYY]; rfl)
  have EK2 := Lib.hid (show kindV NN = k2 by rw [← hNN]; rfl)
  have EN1 := Lib.hid (show (itemsV YY).length = items1.length by rw [← hYY]; rfl)
  have EN2 := Lib.hid (show (itemsV NN).length = items2.length by rw [← hNN]; rfl)
  have EI0 := Lib.hid (show itemsV TT = items0 by rw [← hTT]; rfl)
  have EN0 := Lib.hid (show namesV TT = names0 by rw [← hTT]; rfl)
  have NUM := Lib.hid (fun (q : ValidV TT) (c : Counts TT) (i : Nat) (hi : i < items0.length) => (by rw [← hTT] at q c; exact num_at q c hi : NumIt (items0.getD i noI)))
  have LEN := Lib.hid (fun (q : ValidV TT) (c : Counts TT) => (by rw [← hTT] at q c; exact count_len q c : items0.length ≤ 40))
  have XC := Lib.hid (show Counts TT ↔ (k0 ≤ 2 ∧ lev0.length = 0) by rw [← hTT]; exact Iff.rfl)
  have BD := Lib.hid (fun W => specBad W)
  obtain ⟨ieS, hieS⟩ := info_parts infoStr
  clear h0 h1 h2 hsm0 hsm1 hsm2 hI0 hN0 hC0 hL0 hP0 hI1 hN1 hC1 hL1 hP1 hI2 hN2 hC2 hL2 hP2 ed0 ed1 ed2 hTT hYY hNN hhi li
  have hs1 : (w.alloc (.cells #[.int .i64 k0, .slice ai0 items0.length ci0, .slice ap0 parts0.length cp0, .slice an0 names0.length cn0, .slice ac0 cls0.length cc0, .slice al0 lev0.length cl0, .int .i64 code0, .int .i64 env0] 31)).heap.size = w.heap.size + 1 := by simp
  have hs2 : ((w.alloc (.cells #[.int .i64 k0, .slice ai0 items0.length ci0, .slice ap0 parts0.length cp0, .slice an0 names0.length cn0, .slice ac0 cls0.length cc0, .slice al0 lev0.length cl0, .int .i64 code0, .int .i64 env0] 31)).alloc (.cells #[.int .i64 k1, .slice ai1 items1.length ci1, .slice ap1 parts1.length cp1, .slice an1 names1.length cn1, .slice ac1 cls1.length cc1, .slice al1 lev1.length cl1, .int .i64 code1, .int .i64 env1] 31)).heap.size = w.heap.size + 1 + 1 := by simp
  have hs3 : (((w.alloc (.cells #[.int .i64 k0, .slice ai0 items0.length ci0, .slice ap0 parts0.length cp0, .slice an0 names0.length cn0, .slice ac0 cls0.length cc0, .slice al0 lev0.length cl0, .int .i64 code0, .int .i64 env0] 31)).alloc (.cells #[.int .i64 k1, .slice ai1 items1.length ci1, .slice ap1 parts1.length cp1, .slice an1 names1.length cn1, .slice ac1 cls1.length cc1, .slice al1 lev1.length cl1, .int .i64 code1, .int .i64 env1] 31)).alloc (.cells #[.int .i64 k2, .slice ai2 items2.length ci2, .slice ap2 parts2.length cp2, .slice an2 names2.length cn2, .slice ac2 cls2.length cc2, .slice al2 lev2.length cl2, .int .i64 code2, .int .i64 env2] 31)).heap.size = w.heap.size + 1 + 1 + 1 := by simp
  obtain ⟨w1, hw1⟩ : ∃ W, (((w.alloc (.cells #[.int .i64 k0, .slice ai0 items0.length ci0, .slice ap0 parts0.length cp0, .slice an0 names0.length cn0, .slice ac0 cls0.length cc0, .slice al0 lev0.length cl0, .int .i64 code0, .int .i64 env0] 31)).alloc (.cells #[.int .i64 k1, .slice ai1 items1.length ci1, .slice ap1 parts1.length cp1, .slice an1 names1.length cn1, .slice ac1 cls1.length cc1, .slice al1 lev1.length cl1, .int .i64 code1, .int .i64 env1] 31)).alloc (.cells #[.int .i64 k2, .slice ai2 items2.length ci2, .slice ap2 parts2.length cp2, .slice an2 names2.length cn2, .slice ac2 cls2.length cc2, .slice al2 lev2.length cl2, .int .i64 code2, .int .i64 env2] 31)).alloc (.cells #[.int .i64 0, .slice none 0 0, .slice none 0 0, .slice none 0 0, .slice none 0 0, .slice none 0 0, .int .i64 0, .int .i64 0] 31) = W := ⟨_, rfl⟩
  have B := Lib.hid (show Below w.heap.size w w1 from hw1 ▸ (((below1 w _).alloc (by simp) _).alloc (by simp; omega) _).alloc (by simp; omega) _)
  have J0 := Lib.hid (show w1.heap[w.heap.size]? = some (.cells #[.int .i64 k0, .slice ai0 items0.length ci0, .slice ap0 parts0.length cp0, .slice an0 names0.length cn0, .slice ac0 cls0.length cc0, .slice al0 lev0.length cl0, .int .i64 code0, .int .i64 env0] 31 (0, 0)) from hw1 ▸ blk_old (blk_old (blk_old (blk_new w _ rfl))))
  have J1 := Lib.hid (show w1.heap[w.heap.size + 1]? = some (.cells #[.int .i64 k1, .slice ai1 items1.length ci1, .slice ap1 parts1.length cp1, .slice an1 names1.length cn1, .slice ac1 cls1.length cc1, .slice al1 lev1.length cl1, .int .i64 code1, .int .i64 env1] 31 (0, 0)) from by rw [← hw1]; exact blk_old (blk_old (blk_new _ _ hs1.symm)))
  have J2 := Lib.hid (show w1.heap[w.heap.size + 1 + 1]? = some (.cells #[.int .i64 k2, .slice ai2 items2.length ci2, .slice ap2 parts2.length cp2, .slice an2 names2.length cn2, .slice ac2 cls2.length cc2, .slice al2 lev2.length cl2, .int .i64 code2, .int .i64 env2] 31 (0, 0)) from by rw [← hw1]; exact blk_old (blk_new _ _ hs2.symm))
  have KR := Lib.hid (show w1.heap[w.heap.size + 1 + 1 + 1]? = some (.cells #[.int .i64 0, .slice none 0 0, .slice none 0 0, .slice none 0 0, .slice none 0 0, .slice none 0 0, .int .i64 0, .int .i64 0] 31 (0, 0)) from by rw [← hw1]; exact blk_new _ _ hs3.symm)
  have EW := Lib.hid hw1
  clear hw1 hs1 hs2 hs3
  go_enter Tryd.func26, Tryd.ntmps26
  go_upto_region 1 with (fail)
  rw [EW.out]
  clear EW
  obtain ⟨a0, a1, a2, a3, a4, a5, a6, a7⟩ := vec8 J0.out
  go_wp2_with fail
  with_reducible refine (C0.out _ B.out).mono ?_
  rintro e v0 ⟨rfl, b⟩
  have B := Lib.hid (below_then B.out b)
  have J0 := Lib.hid (blk_below b J0.out)
  have J1 := Lib.hid (blk_below b J1.out)
  have J2 := Lib.hid (blk_below b J2.out)
  have KR := Lib.hid (blk_below b KR.out)
  clear b
  clear a0 a1 a2 a3 a4 a5 a6 a7
  by_cases q0 : ValidV TT
  · rw [bB_yes q0]
    have Q0 := Lib.hid q0
    clear q0
    obtain ⟨a0, a1, a2, a3, a4, a5, a6, a7⟩ := vec8 J1.out
    go_wp2_with fail
    with_reducible refine (C1.out _ B.out).mono ?_
    rintro e v1 ⟨rfl, b⟩
    have B := Lib.hid (below_then B.out b)
    have J0 := Lib.hid (blk_below b J0.out)
    have J1 := Lib.hid (blk_below b J1.out)
    have J2 := Lib.hid (blk_below b J2.out)
    have KR := Lib.hid (blk_below b KR.out)
    clear b
    clear a0 a1 a2 a3 a4 a5 a6 a7
    by_cases q1 : ValidV YY
    · rw [bB_yes q1]
      have Q1 := Lib.hid q1
      clear q1
      obtain ⟨a0, a1, a2, a3, a4, a5, a6, a7⟩ := vec8 J2.out
      go_wp2_with fail
      with_reducible refine (C2.out _ B.out).mono ?_
      rintro e v2 ⟨rfl, b⟩
      have B := Lib.hid (below_then B.out b)
      have J0 := Lib.hid (blk_below b J0.out)
      have J1 := Lib.hid (blk_below b J1.out)
      have J2 := Lib.hid (blk_below b J2.out)
      have KR := Lib.hid (blk_below b KR.out)
      clear b
      clear a0 a1 a2 a3 a4 a5 a6 a7
      by_cases q2 : ValidV NN
      · rw [bB_yes q2]
        have Q2 := Lib.hid q2
        clear q2
        obtain ⟨a0, a1, a2, a3, a4, a5, a6, a7⟩ := vec8 J0.out
        by_cases hc : Counts TT
        · have HCX := XC.out.1 hc
          have HC := Lib.hid hc
          have SLO := Lib.hid (SL.out _ B.out HCX.1 HCX.2 (NUM.out Q0.out hc))
          have l40 := LEN.out Q0.out hc
          clear hc HCX SL SLN NUM LEN XC
          go_wp2_with fail
          with_reducible refine SLO.out.mono ?_
          rintro e w4 ⟨si, ic, rfl, hrow, b⟩
          have RW := Lib.hid hrow
          have B := Lib.hid (below_then B.out b)
          have J0 := Lib.hid (blk_below b J0.out)
          have J1 := Lib.hid (blk_below b J1.out)
          have J2 := Lib.hid (blk_below b J2.out)
          have KR := Lib.hid (blk_below b KR.out)
          clear b
          clear a0 a1 a2 a3 a4 a5 a6 a7 SLO hrow
          obtain ⟨a0, a1, a2, a3, a4, a5, a6, a7⟩ := vec8 J1.out
          obtain ⟨c0, c1, c2, c3, c4, c5, c6, c7⟩ := vec8 J2.out
          by_cases hk : k1 ≤ 3 ∧ k2 ≤ 3
          · have HK := Lib.hid (show kindV YY ≤ 3 ∧ kindV NN ≤ 3 by rw [EK1.out, EK2.out]; exact hk)
            have hm4 : ¬ (4 : Int) ≤ max k1 k2 := by omega
            have hm4' : ¬ (4 : Int) ≤ (if k2 > k1 then k2 else k1) := by split <;> omega
            clear hk
            go_upto_region 8 with (fail)
            clear hm4 hm4' a0 a1 a2 a3 a4 a5 a6 a7 c0 c1 c2 c3 c4 c5 c6 c7
            by_cases hz : items1.length = 0 ∨ items2.length = 0
            · have XZ := Lib.hid (show (itemsV YY).length = 0 ∨ (itemsV NN).length = 0 by rw [EN1.out, EN2.out]; exact hz)
              have WHY := Lib.hid (ch_zero ⟨Q0.out, Q1.out, Q2.out⟩ HC.out HK.out XZ.out)
              by_cases hz1 : items1.length = 0
              · rw [hz1] at J1
                obtain ⟨a0, a1, a2, a3, a4, a5, a6, a7⟩ := vec8 J1.out
                obtain ⟨c0, c1, c2, c3, c4, c5, c6, c7⟩ := vec8 J2.out
                have XV := Lib.hid WHY.out
                obtain ⟨z0, z1, z2, z3, z4, z5, z6, z7⟩ := vec8 KR.out
                obtain ⟨f0, f1, f2, f3, f4, f5, f6, f7⟩ := free8 KR.out
                go_wp2
                rw [XV.out.1, XV.out.2]
                exact vec_endS rfl rfl rfl rfl KR.out (zeroS _ w _ (put8_below B.out (by omega)))
              · have hz2 : items2.length = 0 := hz.resolve_left hz1
                have hzb : ((items1.length : Int) == 0) = false := beq_eq_false_iff_ne.2 (by omega)
                rw [hz2] at J2
                obtain ⟨a0, a1, a2, a3, a4, a5, a6, a7⟩ := vec8 J1.out
                obtain ⟨c0, c1, c2, c3, c4, c5, c6, c7⟩ := vec8 J2.out
                have XV := Lib.hid WHY.out
                obtain ⟨z0, z1, z2, z3, z4, z5, z6, z7⟩ := vec8 KR.out
                obtain ⟨f0, f1, f2, f3, f4, f5, f6, f7⟩ := free8 KR.out
                go_wp2
                rw [XV.out.1, XV.out.2]
                exact vec_endS rfl rfl rfl rfl KR.out (zeroS _ w _ (put8_below B.out (by omega)))
            · have OKC := Lib.hid (show ChOk TT YY NN from ⟨⟨Q0.out, Q1.out, Q2.out⟩, HC.out, HK.out, by rw [EN1.out, EN2.out]; exact hz⟩)
              have XV := Lib.hid (ch_yes OKC.out)
              have oa1 := ch_atmOk Q1.out HK.out.1
              have oa2 := ch_atmOk Q2.out HK.out.2
              have hzb : ((items1.length : Int) == 0) = false := beq_eq_false_iff_ne.2 (by omega)
              have hzc : ((items2.length : Int) == 0) = false := beq_eq_false_iff_ne.2 (by omega)
              have EG := Lib.hid (chG_eq (t := TT) (y := YY) (n := NN) (by rw [EN1.out]; omega) (by rw [EN2.out]; omega) (chK YY NN))
              rw [EG.out, EI0.out, EN0.out] at XV
              have HM := Lib.hid (show (if plnK (kindV NN) (levV NN) > plnK (kindV YY) (levV YY) then plnK (kindV NN) (levV NN) else plnK (kindV YY) (levV YY)) = chK YY NN from rfl)
              have CI1 := Lib.hid (fun (k : Nat) (W : World) => specCnv (plnK (kindV YY) (levV YY)) (chK YY NN) ((plnL (levV YY) (itemsV YY)).getD (k % (plnL (levV YY) (itemsV YY)).length) noI) W (oa1.pln (Nat.lt_of_lt_of_eq (Nat.mod_lt k (by rw [plnL_len, EN1.out]; omega)) (plnL_len _ _))) oa1.pk.1 (maxI_l _ _) (maxI_le oa1.pk.2.1 oa2.pk.2.1))
              have CI2 := Lib.hid (fun (k : Nat) (W : World) => specCnv (plnK (kindV NN) (levV NN)) (chK YY NN) ((plnL (levV NN) (itemsV NN)).getD (k % (plnL (levV NN) (itemsV NN)).length) noI) W (oa2.pln (Nat.lt_of_lt_of_eq (Nat.mod_lt k (by rw [plnL_len, EN2.out]; omega)) (plnL_len _ _))) oa2.pk.1 (maxI_r _ _) (maxI_le oa1.pk.2.1 oa2.pk.2.1))
              have CP1 := Lib.hid (PC1.out oa1)
              have CP2 := Lib.hid (PC2.out oa2)
              have H1P := Lib.hid (show 0 < (plnL (levV YY) (itemsV YY)).length by rw [plnL_len, EN1.out]; omega)
              have H2P := Lib.hid (show 0 < (plnL (levV NN) (itemsV NN)).length by rw [plnL_len, EN2.out]; omega)
              obtain ⟨M, hM⟩ : ∃ m, chK YY NN = m := ⟨_, rfl⟩
              rw [hM] at XV HM CI1 CI2
              obtain ⟨K1, hK1⟩ : ∃ m, plnK (kindV YY) (levV YY) = m := ⟨_, rfl⟩
              obtain ⟨K2, hK2⟩ : ∃ m, plnK (kindV NN) (levV NN) = m := ⟨_, rfl⟩
              obtain ⟨X1, hX1⟩ : ∃ m, plnL (levV YY) (itemsV YY) = m := ⟨_, rfl⟩
              obtain ⟨X2, hX2⟩ : ∃ m, plnL (levV NN) (itemsV NN) = m := ⟨_, rfl⟩
              rw [hK1] at XV HM CI1 CP1
              rw [hK2] at XV HM CI2 CP2
              rw [hX1] at XV CI1 CP1 H1P
              rw [hX2] at XV CI2 CP2 H2P
              have FZ_ := Lib.hid (show ∀ k : Nat, chG items0 K1 K2 M X1 X2 k = chsI (truthI (items0.getD k noI)) (cnvI K1 M (X1.getD (k % X1.length) noI)) (cnvI K2 M (X2.getD (k % X2.length) noI)) from fun k => rfl)
              obtain ⟨FZ, hFZ⟩ : ∃ f, chG items0 K1 K2 M X1 X2 = f := ⟨_, rfl⟩
              rw [hFZ] at XV FZ_
              obtain ⟨a0, a1, a2, a3, a4, a5, a6, a7⟩ := vec8 J1.out
              obtain ⟨c0, c1, c2, c3, c4, c5, c6, c7⟩ := vec8 J2.out
              clear hM hK1 hK2 hX1 hX2 hFZ OKC EG hz oa1 oa2 PC1 PC2 EN1 EN2 EI0 EN0 EK1 EK2 Q0 Q1 Q2 HC HK BD
              go_wp2_with fail
              with_reducible refine (CP1.out _ B.out).mono ?_
              rintro e u5 ⟨ya, rfl, oy, b⟩
              obtain ⟨gy, CY, yi, yap, yp, yan, yn, yac, yc, yal, yl, rfl, hgy, hy1, hy2, hyc⟩ := own_openN (k := K1) (l := X1) oy H1P.out
              have CYF := Lib.hid hyc
              have KCY := Lib.hid hgy
              have LB := Lib.hid (Array.getElem?_eq_some_iff.1 KR.out).1
              have RW := Lib.hid (ownsRow_below RW.out b)
              have B := Lib.hid (below_then B.out b)
              have J0 := Lib.hid (blk_below b J0.out)
              have J1 := Lib.hid (blk_below b J1.out)
              have J2 := Lib.hid (blk_below b J2.out)
              have KR := Lib.hid (blk_below b KR.out)
              clear b
              clear a0 a1 a2 a3 a4 a5 a6 a7 c0 c1 c2 c3 c4 c5 c6 c7 oy hyc hgy CP1 hzb hzc
              obtain ⟨u6, hu6⟩ : ∃ W, u5.alloc (.cells #[.int .i64 K1, .slice (some ⟨gy, 0, none⟩) X1.length yi, .slice yap 0 yp, .slice yan 0 yn, .slice yac 0 yc, .slice yal 0 yl, .int .i64 0, .int .i64 0] 31) = W := ⟨_, rfl⟩
              have b : Below u5.heap.size u5 u6 := hu6 ▸ below1 u5 _
              have KPY := Lib.hid (show u6.heap[u5.heap.size]? = some (.cells #[.int .i64 K1, .slice (some ⟨gy, 0, none⟩) X1.length yi, .slice yap 0 yp, .slice yan 0 yn, .slice yac 0 yc, .slice yal 0 yl, .int .i64 0, .int .i64 0] 31 (0, 0)) from hu6 ▸ blk_new u5 _ rfl)
              have EU := Lib.hid hu6
              have KCY := Lib.hid (blk_below b KCY.out)
              have RW := Lib.hid (ownsRow_below RW.out b)
              have S5 := Lib.hid b.size
              obtain ⟨c0, c1, c2, c3, c4, c5, c6, c7⟩ := vec8 J2.out
              have hl5 := (Array.getElem?_eq_some_iff.1 J2.out).1
              have B := Lib.hid (below_then B.out b)
              have J0 := Lib.hid (blk_below b J0.out)
              have J1 := Lib.hid (blk_below b J1.out)
              have J2 := Lib.hid (blk_below b J2.out)
              have KR := Lib.hid (blk_below b KR.out)
              clear b
              clear hu6
              go_wp2_with fail
              rw [EU.out]
              obtain ⟨pY, hpY⟩ : ∃ p, u5.heap.size = p := ⟨_, rfl⟩
              rw [hpY] at KPY ⊢
              with_reducible refine (CP2.out _ B.out).mono ?_
              rintro e u7 ⟨na_, rfl, oy, b⟩
              obtain ⟨gz, CZ, zi, zap, zp, zan, zn, zac, zc, zal, zl, rfl, hgz, hz1, hz2, hzc⟩ := own_openN (k := K2) (l := X2) oy H2P.out
              have CZF := Lib.hid hzc
              have KCZ := Lib.hid hgz
              have KPY := Lib.hid (blk_below b KPY.out)
              have KCY := Lib.hid (blk_below b KCY.out)
              have RW := Lib.hid (ownsRow_below RW.out b)
              have S6 := Lib.hid b.size
              have B := Lib.hid (below_then B.out b)
              have J0 := Lib.hid (blk_below b J0.out)
              have J1 := Lib.hid (blk_below b J1.out)
              have J2 := Lib.hid (blk_below b J2.out)
              have KR := Lib.hid (blk_below b KR.out)
              clear b
              clear c0 c1 c2 c3 c4 c5 c6 c7 oy hzc hgz CP2 hl5
              obtain ⟨wq, hwq⟩ : ∃ W, u7.alloc (.cells #[.int .i64 K2, .slice (some ⟨gz, 0, none⟩) X2.length zi, .slice zap 0 zp, .slice zan 0 zn, .slice zac 0 zc, .slice zal 0 zl, .int .i64 0, .int .i64 0] 31) = W := ⟨_, rfl⟩
              have b : Below u7.heap.size u7 wq := hwq ▸ below1 u7 _
              have KPZ := Lib.hid (show wq.heap[u7.heap.size]? = some (.cells #[.int .i64 K2, .slice (some ⟨gz, 0, none⟩) X2.length zi, .slice zap 0 zp, .slice zan 0 zn, .slice zac 0 zc, .slice zal 0 zl, .int .i64 0, .int .i64 0] 31 (0, 0)) from hwq ▸ blk_new u7 _ rfl)
              have EQ := Lib.hid hwq
              have KPY := Lib.hid (blk_below b KPY.out)
              have KCY := Lib.hid (blk_below b KCY.out)
              have KCZ := Lib.hid (blk_below b KCZ.out)
              have RW := Lib.hid (ownsRow_below RW.out b)
              have B := Lib.hid (below_then B.out b)
              have J0 := Lib.hid (blk_below b J0.out)
              have J1 := Lib.hid (blk_below b J1.out)
              have J2 := Lib.hid (blk_below b J2.out)
              have KR := Lib.hid (blk_below b KR.out)
              clear b
              clear hwq EU
              clear hpY
              go_upto_region 12 with (fail)
              rw [EQ.out]
              obtain ⟨pZ, hpZ⟩ : ∃ p, u7.heap.size = p := ⟨_, rfl⟩
              rw [hpZ] at KPZ ⊢
              have BQ := Lib.hid B.out
              have LQ := Lib.hid (Array.getElem?_eq_some_iff.1 KPZ.out).1
              have LQ2 := Lib.hid (Array.getElem?_eq_some_iff.1 KPY.out).1
              have L10 := Lib.hid (Array.getElem?_eq_some_iff.1 KR.out).1
              have YW := Lib.hid (Array.getElem?_eq_some_iff.1 KCY.out).1
              have ZW := Lib.hid (Array.getElem?_eq_some_iff.1 KCZ.out).1
              have LP := Lib.hid (show pY < wq.heap.size ∧ pZ < wq.heap.size ∧ w.heap.size < wq.heap.size from ⟨LQ2.out, LQ.out, by have := L10.out; omega⟩)
              have H := Lib.hid (show HeldC wq wq ([(pY, 31, #[.int .i64 K1, .slice (some ⟨gy, 0, none⟩) X1.length yi, .slice yap 0 yp, .slice yan 0 yn, .slice yac 0 yc, .slice yal 0 yl, .int .i64 0, .int .i64 0]), (pZ, 31, #[.int .i64 K2, .slice (some ⟨gz, 0, none⟩) X2.length zi, .slice zap 0 zp, .slice zan 0 zn, .slice zac 0 zc, .slice zal 0 zl, .int .i64 0, .int .i64 0]), (w.heap.size, 31, #[.int .i64 k0, .slice ai0 items0.length ci0, .slice ap0 parts0.length cp0, .slice an0 names0.length cn0, .slice ac0 cls0.length cc0, .slice al0 lev0.length cl0, .int .i64 code0, .int .i64 env0])]) from heldC_cons (heldC_two (Below.refl _ _) KPZ.out J0.out) KPY.out)
              have NI := Lib.hid (fun (W : World) (hb : Below wq.heap.size wq W) => NI.out W (below_then BQ.out hb))
              clear EQ hpZ hy1 hy2 hz1 hz2 S5 S6 LB
              go_cut [12] from 63 to 72 (fun pu wx => ∃ (gu : Nat) (na : Option Addr) (nc : Nat) (FF : List Nat), pu = .pointer (some ⟨gu, 0, none⟩) ∧ MadeN M names0 na nc FF wq wx gu)
              case first =>
                refine run_regionT (ops := (opsOf Tryd.f26 12)) (S := fun w' => HeldC wq w' ([(pY, 31, #[.int .i64 K1, .slice (some ⟨gy, 0, none⟩) X1.length yi, .slice yap 0 yp, .slice yan 0 yn, .slice yac 0 yc, .slice yal 0 yl, .int .i64 0, .int .i64 0]), (pZ, 31, #[.int .i64 K2, .slice (some ⟨gz, 0, none⟩) X2.length zi, .slice zap 0 zp, .slice zan 0 zn, .slice zac 0 zc, .slice zal 0 zl, .int .i64 0, .int .i64 0]), (w.heap.size, 31, #[.int .i64 k0, .slice ai0 items0.length ci0, .slice ap0 parts0.length cp0, .slice an0 names0.length cn0, .slice ac0 cls0.length cc0, .slice al0 lev0.length cl0, .int .i64 code0, .int .i64 env0])])) (.fork [(0, true), (1, true), (2, true), (3, true), (4, true), (6, true), (7, true)] 5 (.fork [] 8 (.leaf [(9, true), (10, false), (11, false)]) 10 (.leaf [(8, false), (9, true), (11, false)])) 10 (.leaf [(5, false), (8, false), (9, true), (11, false)])) (by kernel_rfl) (by kernel_rfl) (by kernel_rfl) (by kernel_rfl) (by kernel_rfl) (fun _ _ _ _ _ h => h) (heldC_drew H.out) ?_
                have H := Lib.hid (heldC_drew H.out)
                refine runC_partV (b := pY) (by kernel_rfl) (show opAt (opsOf Tryd.f26 12) 0 = some (some 63, .fieldAddr 31 (.tmp 10) 0, none) from by kernel_rfl) (by kernel_rfl) (by kernel_rfl) (by kernel_rfl) ?_
                refine runC_cell (b := pY) (j := 0) (v := .int .i64 K1) load_int (show opAt (opsOf Tryd.f26 12) 1 = some (some 64, .load 3 (.tmp 63), none) from by kernel_rfl) (by kernel_rfl) (by kernel_rfl) (by kernel_rfl) (List.Mem.head _) rfl ?_
                refine runC_partV (b := pZ) (by kernel_rfl) (show opAt (opsOf Tryd.f26 12) 2 = some (some 65, .fieldAddr 31 (.tmp 11) 0, none) from by kernel_rfl) (by kernel_rfl) (by kernel_rfl) (by kernel_rfl) ?_
                refine runC_cell (b := pZ) (j := 0) (v := .int .i64 K2) load_int (show opAt (opsOf Tryd.f26 12) 3 = some (some 66, .load 3 (.tmp 65), none) from by kernel_rfl) (by kernel_rfl) (by kernel_rfl) (by kernel_rfl) (List.Mem.tail _ (List.Mem.head _)) rfl ?_
                refine run_max2 (p := K1) (q := K2) (z := M) (show opAt (opsOf Tryd.f26 12) 4 = some (some 67, .call { callee := .builtin .max, args := [(.tmp 64), (.tmp 66)].toArray, argTypes := [3, 3].toArray }, none) from by kernel_rfl) (by kernel_rfl) (by kernel_rfl) (by kernel_rfl) (by kernel_rfl) HM.out ?_
                refine runC_partV (b := w.heap.size) (by kernel_rfl) (show opAt (opsOf Tryd.f26 12) 6 = some (some 69, .fieldAddr 31 (.tmp 3) 3, none) from by kernel_rfl) (by kernel_rfl) (by kernel_rfl) (by kernel_rfl) ?_
                refine runC_cell (b := w.heap.size) (j := 3) (v := .slice an0 names0.length cn0) load_strs (show opAt (opsOf Tryd.f26 12) 7 = some (some 70, .load 24 (.tmp 69), none) from by kernel_rfl) (by kernel_rfl) (by kernel_rfl) (by kernel_rfl) (List.Mem.tail _ (List.Mem.tail _ (List.Mem.head _))) rfl ?_
                refine run_fork H.out (by kernel_rfl) (by kernel_rfl) ?_ ?_
                · refine run_mk0T (show opAt (opsOf Tryd.f26 12) 5 = some (some 68, .buildSlice 24 0 #[], none) from by kernel_rfl) (by kernel_rfl) (by kernel_rfl) (fun W5 n5 hW5 hn5 => ?_)
                  subst hW5
                  have KE := Lib.hid (show (_ : World).ownsRow wq.heap.size 9 1 (.slice (some ⟨n5, 0, none⟩) 0 0) 0 [] from ⟨by simp, .inr ⟨n5, 0, #[], rfl, by rw [hn5]; exact H.out.1.size, blk_new _ _ hn5, Nat.le_refl _, Nat.zero_le _, by simp, by simp⟩⟩)
                  refine ⟨heldC_call H.out (below1 _ (.cells #[] 9)), ?_⟩
                  have H := Lib.hid (heldC_call H.out (below1 _ (.cells #[] 9)))
                  clear hn5
                  refine run_fork H.out (by kernel_rfl) (by kernel_rfl) ?_ ?_
                  · refine run_appM (P := Tryd.prog) (show opAt (opsOf Tryd.f26 12) 8 = some (some 71, .call { callee := .builtin .append, args := [(.tmp 68), (.tmp 70)].toArray, argTypes := [24, 24].toArray }, none) from by kernel_rfl) (by kernel_rfl) (by kernel_rfl) (by kernel_rfl) an0 names0.length cn0 (by kernel_rfl) wq.heap.size ieS _ 1 16 Tryd.underlying24 hieS.1 hieS.2.1 hieS.2.2.1 hieS.2.2.2 rfl (by decide) 0 [] KE.out (fun _ => rfl) (names0.map Value.string) (by simp) (NI.out _ H.out.1) (fun u hu => by obtain ⟨s, _, rfl⟩ := List.mem_map.1 hu; rfl) (by unfold maxLen; omega) (by omega) H.out.1.size (fun v' W8 hO hg hwh => ?_)
                    rw [Nat.zero_add, List.nil_append] at hO
                    obtain ⟨sa, c, rfl⟩ := row_formS hO
                    have HG := Lib.hid (heldC_grown H.out hg (fun k hk => ⟨(KE.out.lt k hk).1, fun q hq => by have := (KE.out.lt k hk).1; have := LP.out; simp only [List.mem_cons, List.not_mem_nil, or_false] at hq; rcases hq with rfl | rfl | rfl <;> (simp only; omega)⟩))
                    refine ⟨HG.out, ?_⟩
                    have H := HG
                    have RW := Lib.hid hO
                    clear HG hO hg hwh KE
                    refine run_bldN (k := M) (sa := sa) (n := names0.length) (m := c) (show opAt (opsOf Tryd.f26 12) 9 = some (some 72, .build 31 #[(0, (.tmp 67)), (3, (.tmp 71))], none) from by kernel_rfl) (by kernel_rfl) (by kernel_rfl) (by kernel_rfl) (by kernel_rfl) ?_
                    refine run_new (C := #[.int .i64 0, .slice none 0 0, .slice none 0 0, .slice none 0 0, .slice none 0 0, .slice none 0 0, .int .i64 0, .int .i64 0]) (show opAt (opsOf Tryd.f26 12) 10 = some (some 12, .alloc 31, none) from by kernel_rfl) (by kernel_rfl) (by kernel_rfl) new_vec (fun W10 n10 hW10 hn10 => ?_)
                    subst hW10
                    have NV := Lib.hid (⟨blk_new _ _ hn10⟩ : NewB n10 31 #[.int .i64 0, .slice none 0 0, .slice none 0 0, .slice none 0 0, .slice none 0 0, .slice none 0 0, .int .i64 0, .int .i64 0] _)
                    have GV := Lib.hid (by rw [hn10]; exact H.out.1.size : wq.heap.size ≤ n10)
                    have NE := Lib.hid (fun e => by have := (RW.out.lt n10 e).2; omega : (Value.slice sa names0.length c).ownBlock ≠ some n10)
                    have RW := Lib.hid (ownsRow_below RW.out (below1 _ (.cells #[.int .i64 0, .slice none 0 0, .slice none 0 0, .slice none 0 0, .slice none 0 0, .slice none 0 0, .int .i64 0, .int .i64 0] 31)))
                    refine ⟨heldC_call H.out (below1 _ (.cells #[.int .i64 0, .slice none 0 0, .slice none 0 0, .slice none 0 0, .slice none 0 0, .slice none 0 0, .int .i64 0, .int .i64 0] 31)), ?_⟩
                    have H := Lib.hid (heldC_call H.out (below1 _ (.cells #[.int .i64 0, .slice none 0 0, .slice none 0 0, .slice none 0 0, .slice none 0 0, .slice none 0 0, .int .i64 0, .int .i64 0] 31)))
                    clear hn10
                    refine run_last (by kernel_rfl) (show opAt (opsOf Tryd.f26 12) 11 = some (none, .store 31 (.tmp 12) (.tmp 72), none) from by kernel_rfl) (by kernel_rfl) (by kernel_rfl) (by kernel_rfl) (store_vec8 NV.out.out (show (#[.int .i64 M, .slice none 0 0, .slice none 0 0, .slice sa names0.length c, .slice none 0 0, .slice none 0 0, .int .i64 0, .int .i64 0] : Array Value).all (·.oneCell') = true from by simp [Value.oneCell'])) ?_
                    refine run_done ?_
                    simp only [putAll, Act.put, List.setIfInBounds_toArray, List.set_cons_zero, List.set_cons_succ]
                    obtain ⟨na', nc', FF, e, hT, hnd, hrg, hcap⟩ := row_txs RW.out
                    simp only [Value.slice.injEq, true_and] at e
                    obtain ⟨rfl, rfl⟩ := e
                    have HT := Lib.hid hT
                    have HRG := Lib.hid hrg
                    have HX := Lib.hid hnd
                    have HCP := Lib.hid hcap
                    clear hT hrg hnd hcap
                    have FN := Lib.hid (fun g hg e => NE.out (by rw [(HRG.out g hg).2.2, e]) : ∀ g ∈ FF, g ≠ n10)
                    go_wp2_with fail
                    go_meet
                    exact ⟨n10, sa, c, FF, rfl, ⟨row_set NV.out.out, HT.out.kept (fun g hg => row_old rfl (FN.out g hg)), HX.out, fun g hg => ⟨(HRG.out g hg).1, by have := (HRG.out g hg).2.1; simpa using this, FN.out g hg⟩, HCP.out, below_row H.out.1 GV.out _, GV.out⟩⟩
                  · refine run_new (C := #[.int .i64 0, .slice none 0 0, .slice none 0 0, .slice none 0 0, .slice none 0 0, .slice none 0 0, .int .i64 0, .int .i64 0]) (show opAt (opsOf Tryd.f26 12) 10 = some (some 12, .alloc 31, none) from by kernel_rfl) (by kernel_rfl) (by kernel_rfl) new_vec (fun W10 n10 hW10 hn10 => ?_)
                    subst hW10
                    have NV := Lib.hid (⟨blk_new _ _ hn10⟩ : NewB n10 31 #[.int .i64 0, .slice none 0 0, .slice none 0 0, .slice none 0 0, .slice none 0 0, .slice none 0 0, .int .i64 0, .int .i64 0] _)
                    have GV := Lib.hid (by rw [hn10]; exact H.out.1.size : wq.heap.size ≤ n10)
                    have NE := Lib.hid (fun e => by have := (KE.out.lt n5 rfl).2; omega : n5 ≠ n10)
                    have KE := Lib.hid (ownsRow_below KE.out (below1 _ (.cells #[.int .i64 0, .slice none 0 0, .slice none 0 0, .slice none 0 0, .slice none 0 0, .slice none 0 0, .int .i64 0, .int .i64 0] 31)))
                    refine ⟨heldC_call H.out (below1 _ (.cells #[.int .i64 0, .slice none 0 0, .slice none 0 0, .slice none 0 0, .slice none 0 0, .slice none 0 0, .int .i64 0, .int .i64 0] 31)), ?_⟩
                    have H := Lib.hid (heldC_call H.out (below1 _ (.cells #[.int .i64 0, .slice none 0 0, .slice none 0 0, .slice none 0 0, .slice none 0 0, .slice none 0 0, .int .i64 0, .int .i64 0] 31)))
                    clear hn10
                    have LT7 := Lib.hid (Array.getElem?_eq_some_iff.1 NV.out.out).1
                    refine run_appM (P := Tryd.prog) (show opAt (opsOf Tryd.f26 12) 8 = some (some 71, .call { callee := .builtin .append, args := [(.tmp 68), (.tmp 70)].toArray, argTypes := [24, 24].toArray }, none) from by kernel_rfl) (by kernel_rfl) (by kernel_rfl) (by kernel_rfl) an0 names0.length cn0 (by kernel_rfl) wq.heap.size ieS _ 1 16 Tryd.underlying24 hieS.1 hieS.2.1 hieS.2.2.1 hieS.2.2.2 rfl (by decide) 0 [] KE.out (fun _ => rfl) (names0.map Value.string) (by simp) (NI.out _ H.out.1) (fun u hu => by obtain ⟨s, _, rfl⟩ := List.mem_map.1 hu; rfl) (by unfold maxLen; omega) (by omega) H.out.1.size (fun v' W8 hO hg hwh => ?_)
                    rw [Nat.zero_add, List.nil_append] at hO
                    obtain ⟨sa, c, rfl⟩ := row_formS hO
                    have NV := Lib.hid (⟨(hg.block _ (Array.getElem?_eq_some_iff.1 NV.out.out).1 (fun e => NE.out (Option.some.inj (show some n10 = some n5 from e)).symm)).trans NV.out.out⟩ : NewB n10 31 #[.int .i64 0, .slice none 0 0, .slice none 0 0, .slice none 0 0, .slice none 0 0, .slice none 0 0, .int .i64 0, .int .i64 0] W8)
                    have NE := Lib.hid (fun e => by rcases hwh with q | q <;> (rw [q] at e; first | exact NE.out (Option.some.inj (show some n5 = some n10 from e)) | (have := LT7.out; have := Option.some.inj e; omega)) : (Value.slice sa names0.length c).ownBlock ≠ some n10)
                    have HG := Lib.hid (heldC_grown H.out hg (fun k hk => ⟨(KE.out.lt k hk).1, fun q hq => by have := (KE.out.lt k hk).1; have := LP.out; simp only [List.mem_cons, List.not_mem_nil, or_false] at hq; rcases hq with rfl | rfl | rfl <;> (simp only; omega)⟩))
                    refine ⟨HG.out, ?_⟩
                    have H := HG
                    have RW := Lib.hid hO
                    clear HG hO hg hwh KE
                    refine run_bldN (k := M) (sa := sa) (n := names0.length) (m := c) (show opAt (opsOf Tryd.f26 12) 9 = some (some 72, .build 31 #[(0, (.tmp 67)), (3, (.tmp 71))], none) from by kernel_rfl) (by kernel_rfl) (by kernel_rfl) (by kernel_rfl) (by kernel_rfl) ?_
                    refine run_last (by kernel_rfl) (show opAt (opsOf Tryd.f26 12) 11 = some (none, .store 31 (.tmp 12) (.tmp 72), none) from by kernel_rfl) (by kernel_rfl) (by kernel_rfl) (by kernel_rfl) (store_vec8 NV.out.out (show (#[.int .i64 M, .slice none 0 0, .slice none 0 0, .slice sa names0.length c, .slice none 0 0, .slice none 0 0, .int .i64 0, .int .i64 0] : Array Value).all (·.oneCell') = true from by simp [Value.oneCell'])) ?_
                    refine run_done ?_
                    simp only [putAll, Act.put, List.setIfInBounds_toArray, List.set_cons_zero, List.set_cons_succ]
                    obtain ⟨na', nc', FF, e, hT, hnd, hrg, hcap⟩ := row_txs RW.out
                    simp only [Value.slice.injEq, true_and] at e
                    obtain ⟨rfl, rfl⟩ := e
                    have HT := Lib.hid hT
                    have HRG := Lib.hid hrg
                    have HX := Lib.hid hnd
                    have HCP := Lib.hid hcap
                    clear hT hrg hnd hcap
                    have FN := Lib.hid (fun g hg e => NE.out (by rw [(HRG.out g hg).2.2, e]) : ∀ g ∈ FF, g ≠ n10)
                    go_wp2_with fail
                    go_meet
                    exact ⟨n10, sa, c, FF, rfl, ⟨row_set NV.out.out, HT.out.kept (fun g hg => row_old rfl (FN.out g hg)), HX.out, fun g hg => ⟨(HRG.out g hg).1, by have := (HRG.out g hg).2.1; simpa using this, FN.out g hg⟩, HCP.out, below_row H.out.1 GV.out _, GV.out⟩⟩
                · refine run_new (C := #[.int .i64 0, .slice none 0 0, .slice none 0 0, .slice none 0 0, .slice none 0 0, .slice none 0 0, .int .i64 0, .int .i64 0]) (show opAt (opsOf Tryd.f26 12) 10 = some (some 12, .alloc 31, none) from by kernel_rfl) (by kernel_rfl) (by kernel_rfl) new_vec (fun W10 n10 hW10 hn10 => ?_)
                  subst hW10
                  have NV := Lib.hid (⟨blk_new _ _ hn10⟩ : NewB n10 31 #[.int .i64 0, .slice none 0 0, .slice none 0 0, .slice none 0 0, .slice none 0 0, .slice none 0 0, .int .i64 0, .int .i64 0] _)
                  have GV := Lib.hid (by rw [hn10]; exact H.out.1.size : wq.heap.size ≤ n10)
                  refine ⟨heldC_call H.out (below1 _ (.cells #[.int .i64 0, .slice none 0 0, .slice none 0 0, .slice none 0 0, .slice none 0 0, .slice none 0 0, .int .i64 0, .int .i64 0] 31)), ?_⟩
                  have H := Lib.hid (heldC_call H.out (below1 _ (.cells #[.int .i64 0, .slice none 0 0, .slice none 0 0, .slice none 0 0, .slice none 0 0, .slice none 0 0, .int .i64 0, .int .i64 0] 31)))
                  clear hn10
                  refine run_mk0T (show opAt (opsOf Tryd.f26 12) 5 = some (some 68, .buildSlice 24 0 #[], none) from by kernel_rfl) (by kernel_rfl) (by kernel_rfl) (fun W5 n5 hW5 hn5 => ?_)
                  subst hW5
                  have KE := Lib.hid (show (_ : World).ownsRow wq.heap.size 9 1 (.slice (some ⟨n5, 0, none⟩) 0 0) 0 [] from ⟨by simp, .inr ⟨n5, 0, #[], rfl, by rw [hn5]; exact H.out.1.size, blk_new _ _ hn5, Nat.le_refl _, Nat.zero_le _, by simp, by simp⟩⟩)
                  have NE := Lib.hid (by rw [hn5]; exact Nat.ne_of_gt (Array.getElem?_eq_some_iff.1 NV.out.out).1 : n5 ≠ n10)
                  have NV := Lib.hid (NV.out.keep (below1 _ (.cells #[] 9)))
                  refine ⟨heldC_call H.out (below1 _ (.cells #[] 9)), ?_⟩
                  have H := Lib.hid (heldC_call H.out (below1 _ (.cells #[] 9)))
                  clear hn5
                  have LT7 := Lib.hid (Array.getElem?_eq_some_iff.1 NV.out.out).1
                  refine run_appM (P := Tryd.prog) (show opAt (opsOf Tryd.f26 12) 8 = some (some 71, .call { callee := .builtin .append, args := [(.tmp 68), (.tmp 70)].toArray, argTypes := [24, 24].toArray }, none) from by kernel_rfl) (by kernel_rfl) (by kernel_rfl) (by kernel_rfl) an0 names0.length cn0 (by kernel_rfl) wq.heap.size ieS _ 1 16 Tryd.underlying24 hieS.1 hieS.2.1 hieS.2.2.1 hieS.2.2.2 rfl (by decide) 0 [] KE.out (fun _ => rfl) (names0.map Value.string) (by simp) (NI.out _ H.out.1) (fun u hu => by obtain ⟨s, _, rfl⟩ := List.mem_map.1 hu; rfl) (by unfold maxLen; omega) (by omega) H.out.1.size (fun v' W8 hO hg hwh => ?_)
                  rw [Nat.zero_add, List.nil_append] at hO
                  obtain ⟨sa, c, rfl⟩ := row_formS hO
                  have NV := Lib.hid (⟨(hg.block _ (Array.getElem?_eq_some_iff.1 NV.out.out).1 (fun e => NE.out (Option.some.inj (show some n10 = some n5 from e)).symm)).trans NV.out.out⟩ : NewB n10 31 #[.int .i64 0, .slice none 0 0, .slice none 0 0, .slice none 0 0, .slice none 0 0, .slice none 0 0, .int .i64 0, .int .i64 0] W8)
                  have NE := Lib.hid (fun e => by rcases hwh with q | q <;> (rw [q] at e; first | exact NE.out (Option.some.inj (show some n5 = some n10 from e)) | (have := LT7.out; have := Option.some.inj e; omega)) : (Value.slice sa names0.length c).ownBlock ≠ some n10)
                  have HG := Lib.hid (heldC_grown H.out hg (fun k hk => ⟨(KE.out.lt k hk).1, fun q hq => by have := (KE.out.lt k hk).1; have := LP.out; simp only [List.mem_cons, List.not_mem_nil, or_false] at hq; rcases hq with rfl | rfl | rfl <;> (simp only; omega)⟩))
                  refine ⟨HG.out, ?_⟩
                  have H := HG
                  have RW := Lib.hid hO
                  clear HG hO hg hwh KE
                  refine run_bldN (k := M) (sa := sa) (n := names0.length) (m := c) (show opAt (opsOf Tryd.f26 12) 9 = some (some 72, .build 31 #[(0, (.tmp 67)), (3, (.tmp 71))], none) from by kernel_rfl) (by kernel_rfl) (by kernel_rfl) (by kernel_rfl) (by kernel_rfl) ?_
                  refine run_last (by kernel_rfl) (show opAt (opsOf Tryd.f26 12) 11 = some (none, .store 31 (.tmp 12) (.tmp 72), none) from by kernel_rfl) (by kernel_rfl) (by kernel_rfl) (by kernel_rfl) (store_vec8 NV.out.out (show (#[.int .i64 M, .slice none 0 0, .slice none 0 0, .slice sa names0.length c, .slice none 0 0, .slice none 0 0, .int .i64 0, .int .i64 0] : Array Value).all (·.oneCell') = true from by simp [Value.oneCell'])) ?_
                  refine run_done ?_
                  simp only [putAll, Act.put, List.setIfInBounds_toArray, List.set_cons_zero, List.set_cons_succ]
                  obtain ⟨na', nc', FF, e, hT, hnd, hrg, hcap⟩ := row_txs RW.out
                  simp only [Value.slice.injEq, true_and] at e
                  obtain ⟨rfl, rfl⟩ := e
                  have HT := Lib.hid hT
                  have HRG := Lib.hid hrg
                  have HX := Lib.hid hnd
                  have HCP := Lib.hid hcap
                  clear hT hrg hnd hcap
                  have FN := Lib.hid (fun g hg e => NE.out (by rw [(HRG.out g hg).2.2, e]) : ∀ g ∈ FF, g ≠ n10)
                  go_wp2_with fail
                  go_meet
                  exact ⟨n10, sa, c, FF, rfl, ⟨row_set NV.out.out, HT.out.kept (fun g hg => row_old rfl (FN.out g hg)), HX.out, fun g hg => ⟨(HRG.out g hg).1, by have := (HRG.out g hg).2.1; simpa using this, FN.out g hg⟩, HCP.out, below_row H.out.1 GV.out _, GV.out⟩⟩
              case rest =>
                obtain ⟨w0, rfl⟩ : ∃ u : World, u = wc := ⟨_, rfl⟩
                obtain ⟨b, na, nc, FF, rfl, hm⟩ := hcut
                have hge := hm.ge
                have hl10 := L10.out
                have hlp := LP.out
                have hyw := YW.out
                have hzw := ZW.out
                have B0 := Lib.hid (below_then BQ.out hm.below)
                have ST := Lib.hid (show AppK w w0 w0 b M (itF (fun i => FZ i) 0) none 0 0 na names0.length nc from AppK.start hm.blk B0.out (by omega))
                have RI := Lib.hid (fun (k : Nat) (hk : k < items0.length) => row_int (ownsRow_below RW.out hm.below) hk)
                have RB := Lib.hid (fun (g : Nat) (hg : (Value.slice si items0.length ic).ownBlock = some g) => (RW.out.lt g hg).2)
                have KPY := Lib.hid (blk_below hm.below KPY.out)
                have KPZ := Lib.hid (blk_below hm.below KPZ.out)
                have KR0 := Lib.hid (blk_below hm.below KR.out)
                have KCY := Lib.hid (blk_below hm.below KCY.out)
                have KCZ := Lib.hid (blk_below hm.below KCZ.out)
                have KPY_ne := Lib.hid (show pY ≠ b by omega)
                have KPZ_ne := Lib.hid (show pZ ≠ b by omega)
                have KR0_ne := Lib.hid (show w.heap.size + 1 + 1 + 1 ≠ b by omega)
                have KCY_ne := Lib.hid (show gy ≠ b by omega)
                have KCZ_ne := Lib.hid (show gz ≠ b by omega)
                have HT := Lib.hid hm.txs
                have HND := Lib.hid hm.nd
                have HRG := Lib.hid hm.rg
                have HCP := Lib.hid hm.cap
                have GE := Lib.hid hge
                clear hm H NI hge hlp hyw hzw hieS
                go_wp2
                go_loopw [13] (fun i wr => ∃ (k : Nat) (sa : Option Addr) (sn sc : Nat), k ≤ items0.length ∧ i = .int .i64 k ∧ AppK w w0 wr b M (itF (fun i => FZ i) k) sa sn sc na names0.length nc) (fun i _ => items0.length - (intOf i).toNat)
                case atStart => exact ⟨0, none, 0, 0, Nat.zero_le _, rfl, ST.out⟩
                case round =>
                  obtain ⟨k, sa, sn, sc, hk, rfl, hap⟩ := hrel
                  have AP := Lib.hid hap
                  clear hap
                  by_cases hlt : k < items0.length
                  · obtain ⟨gi, Ci, rfl, hgi, hbi, hci⟩ := RI.out k hlt
                    have hbi' := AP.out.blk hbi (by have := RB.out gi rfl; have := GE.out; omega)
                    have c0 : wr.cell? ⟨gi, k, none⟩ = some (.int .i64 (truthI (items0.getD k noI))) := cellOf hbi' hci
                    have hgw := (Array.getElem?_eq_some_iff.1 hbi').1
                    have LN := Lib.hid (show (itF (fun i => FZ i) k).length ≤ 1048576 by rw [itF_len]; omega)
                    have NX := Lib.hid (itF_succ (fun i => FZ i) k)
                    have FE := Lib.hid (FZ_.out k)
                    clear hbi hbi' hci
                    obtain ⟨tv, htv⟩ : ∃ t, truthI (items0.getD k noI) = t := ⟨_, rfl⟩
                    have h3 := truth_three (items0.getD k noI)
                    rw [htv] at c0 h3 FE
                    clear htv
                    rcases h3 with rfl | rfl | rfl
                    · have CK := Lib.hid (fun W (hb : Below w.heap.size w W) => CI2.out k W)
                      have E0 : FZ k = cnvI K2 M (X2.getD (k % X2.length) noI) := FE.out
                      obtain ⟨z, hz⟩ : ∃ z : It, cnvI K2 M (X2.getD (k % X2.length) noI) = z := ⟨_, rfl⟩
                      rw [hz] at CK E0
                      rw [E0] at NX
                      clear hz E0
                      have FAR := Lib.hid (fun (q : Nat × TypeId × Array Value) (hq : q ∈ ([(pZ, 31, #[.int .i64 K2, .slice (some ⟨gz, 0, none⟩) X2.length zi, .slice zap 0 zp, .slice zan 0 zn, .slice zac 0 zc, .slice zal 0 zl, .int .i64 0, .int .i64 0]), (b, 31, #[.int .i64 M, .slice sa sn sc, .slice none 0 0, .slice na names0.length nc, .slice none 0 0, .slice none 0 0, .int .i64 0, .int .i64 0]), (gz, 56, CZ)] : List (Nat × TypeId × Array Value))) (j : Nat) (hj : (Value.slice sa sn sc).ownBlock = some j) => (by
                        simp only [List.mem_cons, List.not_mem_nil, or_false] at hq
                        rcases hq with rfl | rfl | rfl
                        · exact AP.out.far hj (.inl (Array.getElem?_eq_some_iff.1 KPZ.out).1)
                        · exact AP.out.far hj (.inl AP.out.lt)
                        · exact AP.out.far hj (.inl (Array.getElem?_eq_some_iff.1 KCZ.out).1) : q.1 ≠ j))
                      have H := Lib.hid (show HeldC w wr ([(pZ, 31, #[.int .i64 K2, .slice (some ⟨gz, 0, none⟩) X2.length zi, .slice zap 0 zp, .slice zan 0 zn, .slice zac 0 zc, .slice zal 0 zl, .int .i64 0, .int .i64 0]), (b, 31, #[.int .i64 M, .slice sa sn sc, .slice none 0 0, .slice na names0.length nc, .slice none 0 0, .slice none 0 0, .int .i64 0, .int .i64 0]), (gz, 56, CZ)]) from ⟨AP.out.below, fun q hq => by
                        simp only [List.mem_cons, List.not_mem_nil, or_false] at hq
                        rcases hq with rfl | rfl | rfl
                        · exact AP.out.blk KPZ.out KPZ_ne.out
                        · exact AP.out.vec
                        · exact AP.out.blk KCZ.out KCZ_ne.out⟩)
                      go_upto_region 21 with (fail)
                      refine run_region (ops := (opsOf Tryd.f26 21)) (S := fun w' => HeldC w w' ([(pZ, 31, #[.int .i64 K2, .slice (some ⟨gz, 0, none⟩) X2.length zi, .slice zap 0 zp, .slice zan 0 zn, .slice zac 0 zc, .slice zal 0 zl, .int .i64 0, .int .i64 0]), (b, 31, #[.int .i64 M, .slice sa sn sc, .slice none 0 0, .slice na names0.length nc, .slice none 0 0, .slice none 0 0, .int .i64 0, .int .i64 0]), (gz, 56, CZ)])) [(0, true), (1, true), (2, true), (3, true), (4, true), (5, true), (6, true), (7, true), (8, true), (9, true), (10, true), (11, true), (12, true), (13, true), (14, true), (15, false), (16, false), (17, false), (18, true), (19, false)] (by kernel_rfl) (by kernel_rfl) (by kernel_rfl) (by kernel_rfl) (by kernel_rfl) (fun _ _ _ _ _ h => h) (heldC_drew H.out) ?_
                      have H := Lib.hid (heldC_drew H.out)
                      have AP := Lib.hid (AP.out.keep (below_drew' (Below.refl _ _)))
                      refine runC_partV (b := b) (by kernel_rfl) (show opAt (opsOf Tryd.f26 21) 0 = some (some 112, .fieldAddr 31 (.tmp 12) 1, none) from by kernel_rfl) (by kernel_rfl) (by kernel_rfl) (by kernel_rfl) ?_
                      refine runC_cell (b := b) (j := 1) (v := .slice sa sn sc) load_its (show opAt (opsOf Tryd.f26 21) 1 = some (some 113, .load 28 (.tmp 112), none) from by kernel_rfl) (by kernel_rfl) (by kernel_rfl) (by kernel_rfl) (List.Mem.tail _ (List.Mem.head _)) rfl ?_
                      refine runC_partV (b := pZ) (by kernel_rfl) (show opAt (opsOf Tryd.f26 21) 2 = some (some 114, .fieldAddr 31 (.tmp 11) 0, none) from by kernel_rfl) (by kernel_rfl) (by kernel_rfl) (by kernel_rfl) ?_
                      refine runC_cell (b := pZ) (j := 0) (v := .int .i64 K2) load_int (show opAt (opsOf Tryd.f26 21) 3 = some (some 115, .load 3 (.tmp 114), none) from by kernel_rfl) (by kernel_rfl) (by kernel_rfl) (by kernel_rfl) (List.Mem.head _) rfl ?_
                      refine runC_partV (b := b) (by kernel_rfl) (show opAt (opsOf Tryd.f26 21) 4 = some (some 116, .fieldAddr 31 (.tmp 12) 0, none) from by kernel_rfl) (by kernel_rfl) (by kernel_rfl) (by kernel_rfl) ?_
                      refine runC_cell (b := b) (j := 0) (v := .int .i64 M) load_int (show opAt (opsOf Tryd.f26 21) 5 = some (some 117, .load 3 (.tmp 116), none) from by kernel_rfl) (by kernel_rfl) (by kernel_rfl) (by kernel_rfl) (List.Mem.tail _ (List.Mem.head _)) rfl ?_
                      refine runC_partV (b := pZ) (by kernel_rfl) (show opAt (opsOf Tryd.f26 21) 6 = some (some 118, .fieldAddr 31 (.tmp 11) 1, none) from by kernel_rfl) (by kernel_rfl) (by kernel_rfl) (by kernel_rfl) ?_
                      refine runC_cell (b := pZ) (j := 1) (v := .slice (some ⟨gz, 0, none⟩) X2.length zi) load_its (show opAt (opsOf Tryd.f26 21) 7 = some (some 119, .load 28 (.tmp 118), none) from by kernel_rfl) (by kernel_rfl) (by kernel_rfl) (by kernel_rfl) (List.Mem.head _) rfl ?_
                      refine run_mov (v := .int .i64 ((k : Int))) (show opAt (opsOf Tryd.f26 21) 8 = some (some 120, .move (.tmp 13), none) from by kernel_rfl) (by kernel_rfl) (by kernel_rfl) (by kernel_rfl) ?_
                      refine runC_partV (b := pZ) (by kernel_rfl) (show opAt (opsOf Tryd.f26 21) 9 = some (some 121, .fieldAddr 31 (.tmp 11) 1, none) from by kernel_rfl) (by kernel_rfl) (by kernel_rfl) (by kernel_rfl) ?_
                      refine runC_cell (b := pZ) (j := 1) (v := .slice (some ⟨gz, 0, none⟩) X2.length zi) load_its (show opAt (opsOf Tryd.f26 21) 10 = some (some 122, .load 28 (.tmp 121), none) from by kernel_rfl) (by kernel_rfl) (by kernel_rfl) (by kernel_rfl) (List.Mem.head _) rfl ?_
                      refine run_len (b := (some ⟨gz, 0, none⟩)) (n := X2.length) (c := zi) (show opAt (opsOf Tryd.f26 21) 11 = some (some 123, .call { callee := .builtin .len, args := [(.tmp 122)].toArray, argTypes := [28].toArray }, none) from by kernel_rfl) (by kernel_rfl) (by kernel_rfl) (by kernel_rfl) (by kernel_rfl) ?_
                      refine run_rem (k := .i64) (p := (k : Int)) (q := (X2.length : Int)) (z := ((k % X2.length : Nat) : Int)) (show opAt (opsOf Tryd.f26 21) 12 = some (some 124, .binOp .rem 3 (.tmp 120) (.tmp 123) 3, none) from by kernel_rfl) (by kernel_rfl) (by kernel_rfl) (by kernel_rfl) (by kernel_rfl) ⟨by have := H2P.out; omega, rfl⟩ ?_
                      refine run_idx3 (n := X2.length) (c := zi) (b := gz) (off := 0) (k := (k % X2.length)) (show opAt (opsOf Tryd.f26 21) 13 = some (some 125, .indexAddr 28 (.tmp 119) (.tmp 124), none) from by kernel_rfl) (by kernel_rfl) (by kernel_rfl) (by kernel_rfl) (by kernel_rfl) (Nat.mod_lt k H2P.out) ?_
                      refine runC_memI (b := gz) (j := 0 + (k % X2.length) * 3) (C := CZ) (z := (X2.getD (k % X2.length) noI)) (show opAt (opsOf Tryd.f26 21) 14 = some (some 126, .load 56 (.tmp 125), none) from by kernel_rfl) (by kernel_rfl) (by kernel_rfl) (by kernel_rfl) (List.Mem.tail _ (List.Mem.tail _ (List.Mem.head _))) (CZF.out _ (Nat.mod_lt k H2P.out)).1 (CZF.out _ (Nat.mod_lt k H2P.out)).2.1 (CZF.out _ (Nat.mod_lt k H2P.out)).2.2 ?_
                      refine run_call (args := [.int .i64 K2, .int .i64 M, .agg #[.int .i64 (X2.getD (k % X2.length) noI).n, .int .i64 (X2.getD (k % X2.length) noI).d, .string (X2.getD (k % X2.length) noI).t]]) (show opAt (opsOf Tryd.f26 21) 15 = some (some 127, .call { callee := .value (.func 31), args := [(.tmp 115), (.tmp 117), (.tmp 126)].toArray, argTypes := [3, 3, 56].toArray }, none) from by kernel_rfl) (by kernel_rfl) (by kernel_rfl) (by kernel_rfl) (by kernel_rfl) ?_
                      refine (CK.out _ H.out.1).mono ?_
                      rintro en rw1 ⟨rfl, hb⟩
                      refine ⟨_, rfl, heldC_call H.out hb, ?_⟩
                      have H := Lib.hid (heldC_call H.out hb)
                      have AP := Lib.hid (AP.out.keep hb)
                      clear hb
                      refine tail_item2 z (show opAt (opsOf Tryd.f26 21) 16 = some (some 128, .buildSlice 28 1 #[(0, (.tmp 127))], none) from by kernel_rfl) (by kernel_rfl) (by kernel_rfl) (show opAt (opsOf Tryd.f26 21) 17 = some (some 129, .call { callee := .builtin .append, args := [(.tmp 113), (.tmp 128)].toArray, argTypes := [28, 28].toArray }, none) from by kernel_rfl) (by kernel_rfl) (fun _ => by kernel_rfl) (show opAt (opsOf Tryd.f26 21) 18 = some (some 130, .fieldAddr 31 (.tmp 12) 1, none) from by kernel_rfl) (by kernel_rfl) (by kernel_rfl) (fun _ _ => by kernel_rfl) (show opAt (opsOf Tryd.f26 21) 19 = some (none, .store 28 (.tmp 130) (.tmp 129), none) from by kernel_rfl) (by kernel_rfl) (by kernel_rfl) H.out AP.out.row LN.out AP.out.size (Nat.le_trans AP.out.ge (Nat.le_of_lt AP.out.lt)) (List.Mem.tail _ (List.Mem.head _)) rfl AP.out.lt AP.out.ge (fun q hq => FAR.out q hq) ?_
                      rintro v' w2 ⟨sa, sn, sc, rfl⟩ hK hO hB hZ hR hG
                      simp only [putAll, Act.put, List.setIfInBounds_toArray, List.set_cons_zero, List.set_cons_succ]
                      have AN := Lib.hid (AP.out.next hK hO hB hZ hG)
                      clear hK hO hB hR hG hZ H FAR LN
                      go_wp2
                      go_roundw
                      case rel => first | exact ⟨k + 1, sa, sn, sc, by omega, by go_num, NX.out ▸ AN.out⟩ | ((repeat apply Exists.intro); exact ⟨⟨k + 1, sa, sn, sc, by omega, by go_num, NX.out ▸ AN.out⟩, rfl⟩)
                      case measure => simp [intOf]; omega
                    · have CK := Lib.hid (fun W (hb : Below w.heap.size w W) => CI1.out k W)
                      have E0 : FZ k = cnvI K1 M (X1.getD (k % X1.length) noI) := FE.out
                      obtain ⟨z, hz⟩ : ∃ z : It, cnvI K1 M (X1.getD (k % X1.length) noI) = z := ⟨_, rfl⟩
                      rw [hz] at CK E0
                      rw [E0] at NX
                      clear hz E0
                      have FAR := Lib.hid (fun (q : Nat × TypeId × Array Value) (hq : q ∈ ([(pY, 31, #[.int .i64 K1, .slice (some ⟨gy, 0, none⟩) X1.length yi, .slice yap 0 yp, .slice yan 0 yn, .slice yac 0 yc, .slice yal 0 yl, .int .i64 0, .int .i64 0]), (b, 31, #[.int .i64 M, .slice sa sn sc, .slice none 0 0, .slice na names0.length nc, .slice none 0 0, .slice none 0 0, .int .i64 0, .int .i64 0]), (gy, 56, CY)] : List (Nat × TypeId × Array Value))) (j : Nat) (hj : (Value.slice sa sn sc).ownBlock = some j) => (by
                        simp only [List.mem_cons, List.not_mem_nil, or_false] at hq
                        rcases hq with rfl | rfl | rfl
                        · exact AP.out.far hj (.inl (Array.getElem?_eq_some_iff.1 KPY.out).1)
                        · exact AP.out.far hj (.inl AP.out.lt)
                        · exact AP.out.far hj (.inl (Array.getElem?_eq_some_iff.1 KCY.out).1) : q.1 ≠ j))
                      have H := Lib.hid (show HeldC w wr ([(pY, 31, #[.int .i64 K1, .slice (some ⟨gy, 0, none⟩) X1.length yi, .slice yap 0 yp, .slice yan 0 yn, .slice yac 0 yc, .slice yal 0 yl, .int .i64 0, .int .i64 0]), (b, 31, #[.int .i64 M, .slice sa sn sc, .slice none 0 0, .slice na names0.length nc, .slice none 0 0, .slice none 0 0, .int .i64 0, .int .i64 0]), (gy, 56, CY)]) from ⟨AP.out.below, fun q hq => by
                        simp only [List.mem_cons, List.not_mem_nil, or_false] at hq
                        rcases hq with rfl | rfl | rfl
                        · exact AP.out.blk KPY.out KPY_ne.out
                        · exact AP.out.vec
                        · exact AP.out.blk KCY.out KCY_ne.out⟩)
                      go_upto_region 19 with (fail)
                      refine run_region (ops := (opsOf Tryd.f26 19)) (S := fun w' => HeldC w w' ([(pY, 31, #[.int .i64 K1, .slice (some ⟨gy, 0, none⟩) X1.length yi, .slice yap 0 yp, .slice yan 0 yn, .slice yac 0 yc, .slice yal 0 yl, .int .i64 0, .int .i64 0]), (b, 31, #[.int .i64 M, .slice sa sn sc, .slice none 0 0, .slice na names0.length nc, .slice none 0 0, .slice none 0 0, .int .i64 0, .int .i64 0]), (gy, 56, CY)])) [(0, true), (1, true), (2, true), (3, true), (4, true), (5, true), (6, true), (7, true), (8, true), (9, true), (10, true), (11, true), (12, true), (13, true), (14, true), (15, false), (16, false), (17, false), (18, true), (19, false)] (by kernel_rfl) (by kernel_rfl) (by kernel_rfl) (by kernel_rfl) (by kernel_rfl) (fun _ _ _ _ _ h => h) (heldC_drew H.out) ?_
                      have H := Lib.hid (heldC_drew H.out)
                      have AP := Lib.hid (AP.out.keep (below_drew' (Below.refl _ _)))
                      refine runC_partV (b := b) (by kernel_rfl) (show opAt (opsOf Tryd.f26 19) 0 = some (some 91, .fieldAddr 31 (.tmp 12) 1, none) from by kernel_rfl) (by kernel_rfl) (by kernel_rfl) (by kernel_rfl) ?_
                      refine runC_cell (b := b) (j := 1) (v := .slice sa sn sc) load_its (show opAt (opsOf Tryd.f26 19) 1 = some (some 92, .load 28 (.tmp 91), none) from by kernel_rfl) (by kernel_rfl) (by kernel_rfl) (by kernel_rfl) (List.Mem.tail _ (List.Mem.head _)) rfl ?_
                      refine runC_partV (b := pY) (by kernel_rfl) (show opAt (opsOf Tryd.f26 19) 2 = some (some 93, .fieldAddr 31 (.tmp 10) 0, none) from by kernel_rfl) (by kernel_rfl) (by kernel_rfl) (by kernel_rfl) ?_
                      refine runC_cell (b := pY) (j := 0) (v := .int .i64 K1) load_int (show opAt (opsOf Tryd.f26 19) 3 = some (some 94, .load 3 (.tmp 93), none) from by kernel_rfl) (by kernel_rfl) (by kernel_rfl) (by kernel_rfl) (List.Mem.head _) rfl ?_
                      refine runC_partV (b := b) (by kernel_rfl) (show opAt (opsOf Tryd.f26 19) 4 = some (some 95, .fieldAddr 31 (.tmp 12) 0, none) from by kernel_rfl) (by kernel_rfl) (by kernel_rfl) (by kernel_rfl) ?_
                      refine runC_cell (b := b) (j := 0) (v := .int .i64 M) load_int (show opAt (opsOf Tryd.f26 19) 5 = some (some 96, .load 3 (.tmp 95), none) from by kernel_rfl) (by kernel_rfl) (by kernel_rfl) (by kernel_rfl) (List.Mem.tail _ (List.Mem.head _)) rfl ?_
                      refine runC_partV (b := pY) (by kernel_rfl) (show opAt (opsOf Tryd.f26 19) 6 = some (some 97, .fieldAddr 31 (.tmp 10) 1, none) from by kernel_rfl) (by kernel_rfl) (by kernel_rfl) (by kernel_rfl) ?_
                      refine runC_cell (b := pY) (j := 1) (v := .slice (some ⟨gy, 0, none⟩) X1.length yi) load_its (show opAt (opsOf Tryd.f26 19) 7 = some (some 98, .load 28 (.tmp 97), none) from by kernel_rfl) (by kernel_rfl) (by kernel_rfl) (by kernel_rfl) (List.Mem.head _) rfl ?_
                      refine run_mov (v := .int .i64 ((k : Int))) (show opAt (opsOf Tryd.f26 19) 8 = some (some 99, .move (.tmp 13), none) from by kernel_rfl) (by kernel_rfl) (by kernel_rfl) (by kernel_rfl) ?_
                      refine runC_partV (b := pY) (by kernel_rfl) (show opAt (opsOf Tryd.f26 19) 9 = some (some 100, .fieldAddr 31 (.tmp 10) 1, none) from by kernel_rfl) (by kernel_rfl) (by kernel_rfl) (by kernel_rfl) ?_
                      refine runC_cell (b := pY) (j := 1) (v := .slice (some ⟨gy, 0, none⟩) X1.length yi) load_its (show opAt (opsOf Tryd.f26 19) 10 = some (some 101, .load 28 (.tmp 100), none) from by kernel_rfl) (by kernel_rfl) (by kernel_rfl) (by kernel_rfl) (List.Mem.head _) rfl ?_
                      refine run_len (b := (some ⟨gy, 0, none⟩)) (n := X1.length) (c := yi) (show opAt (opsOf Tryd.f26 19) 11 = some (some 102, .call { callee := .builtin .len, args := [(.tmp 101)].toArray, argTypes := [28].toArray }, none) from by kernel_rfl) (by kernel_rfl) (by kernel_rfl) (by kernel_rfl) (by kernel_rfl) ?_
                      refine run_rem (k := .i64) (p := (k : Int)) (q := (X1.length : Int)) (z := ((k % X1.length : Nat) : Int)) (show opAt (opsOf Tryd.f26 19) 12 = some (some 103, .binOp .rem 3 (.tmp 99) (.tmp 102) 3, none) from by kernel_rfl) (by kernel_rfl) (by kernel_rfl) (by kernel_rfl) (by kernel_rfl) ⟨by have := H1P.out; omega, rfl⟩ ?_
                      refine run_idx3 (n := X1.length) (c := yi) (b := gy) (off := 0) (k := (k % X1.length)) (show opAt (opsOf Tryd.f26 19) 13 = some (some 104, .indexAddr 28 (.tmp 98) (.tmp 103), none) from by kernel_rfl) (by kernel_rfl) (by kernel_rfl) (by kernel_rfl) (by kernel_rfl) (Nat.mod_lt k H1P.out) ?_
                      refine runC_memI (b := gy) (j := 0 + (k % X1.length) * 3) (C := CY) (z := (X1.getD (k % X1.length) noI)) (show opAt (opsOf Tryd.f26 19) 14 = some (some 105, .load 56 (.tmp 104), none) from by kernel_rfl) (by kernel_rfl) (by kernel_rfl) (by kernel_rfl) (List.Mem.tail _ (List.Mem.tail _ (List.Mem.head _))) (CYF.out _ (Nat.mod_lt k H1P.out)).1 (CYF.out _ (Nat.mod_lt k H1P.out)).2.1 (CYF.out _ (Nat.mod_lt k H1P.out)).2.2 ?_
                      refine run_call (args := [.int .i64 K1, .int .i64 M, .agg #[.int .i64 (X1.getD (k % X1.length) noI).n, .int .i64 (X1.getD (k % X1.length) noI).d, .string (X1.getD (k % X1.length) noI).t]]) (show opAt (opsOf Tryd.f26 19) 15 = some (some 106, .call { callee := .value (.func 31), args := [(.tmp 94), (.tmp 96), (.tmp 105)].toArray, argTypes := [3, 3, 56].toArray }, none) from by kernel_rfl) (by kernel_rfl) (by kernel_rfl) (by kernel_rfl) (by kernel_rfl) ?_
                      refine (CK.out _ H.out.1).mono ?_
                      rintro en rw1 ⟨rfl, hb⟩
                      refine ⟨_, rfl, heldC_call H.out hb, ?_⟩
                      have H := Lib.hid (heldC_call H.out hb)
                      have AP := Lib.hid (AP.out.keep hb)
                      clear hb
                      refine tail_item2 z (show opAt (opsOf Tryd.f26 19) 16 = some (some 107, .buildSlice 28 1 #[(0, (.tmp 106))], none) from by kernel_rfl) (by kernel_rfl) (by kernel_rfl) (show opAt (opsOf Tryd.f26 19) 17 = some (some 108, .call { callee := .builtin .append, args := [(.tmp 92), (.tmp 107)].toArray, argTypes := [28, 28].toArray }, none) from by kernel_rfl) (by kernel_rfl) (fun _ => by kernel_rfl) (show opAt (opsOf Tryd.f26 19) 18 = some (some 109, .fieldAddr 31 (.tmp 12) 1, none) from by kernel_rfl) (by kernel_rfl) (by kernel_rfl) (fun _ _ => by kernel_rfl) (show opAt (opsOf Tryd.f26 19) 19 = some (none, .store 28 (.tmp 109) (.tmp 108), none) from by kernel_rfl) (by kernel_rfl) (by kernel_rfl) H.out AP.out.row LN.out AP.out.size (Nat.le_trans AP.out.ge (Nat.le_of_lt AP.out.lt)) (List.Mem.tail _ (List.Mem.head _)) rfl AP.out.lt AP.out.ge (fun q hq => FAR.out q hq) ?_
                      rintro v' w2 ⟨sa, sn, sc, rfl⟩ hK hO hB hZ hR hG
                      simp only [putAll, Act.put, List.setIfInBounds_toArray, List.set_cons_zero, List.set_cons_succ]
                      have AN := Lib.hid (AP.out.next hK hO hB hZ hG)
                      clear hK hO hB hR hG hZ H FAR LN
                      go_wp2
                      go_roundw
                      case rel => first | exact ⟨k + 1, sa, sn, sc, by omega, by go_num, NX.out ▸ AN.out⟩ | ((repeat apply Exists.intro); exact ⟨⟨k + 1, sa, sn, sc, by omega, by go_num, NX.out ▸ AN.out⟩, rfl⟩)
                      case measure => simp [intOf]; omega
                    · have E0 : FZ k = noI := FE.out
                      rw [E0] at NX
                      clear E0
                      have FAR := Lib.hid (fun (q : Nat × TypeId × Array Value) (hq : q ∈ ([(b, 31, #[.int .i64 M, .slice sa sn sc, .slice none 0 0, .slice na names0.length nc, .slice none 0 0, .slice none 0 0, .int .i64 0, .int .i64 0])] : List (Nat × TypeId × Array Value))) (j : Nat) (hj : (Value.slice sa sn sc).ownBlock = some j) => (by
                        simp only [List.mem_cons, List.not_mem_nil, or_false] at hq
                        rcases hq with rfl
                        · exact AP.out.far hj (.inl AP.out.lt) : q.1 ≠ j))
                      have H := Lib.hid (show HeldC w wr ([(b, 31, #[.int .i64 M, .slice sa sn sc, .slice none 0 0, .slice na names0.length nc, .slice none 0 0, .slice none 0 0, .int .i64 0, .int .i64 0])]) from ⟨AP.out.below, fun q hq => by
                        simp only [List.mem_cons, List.not_mem_nil, or_false] at hq
                        rcases hq with rfl
                        · exact AP.out.vec⟩)
                      go_upto_region 17 with (fail)
                      refine run_region_seq (ops := (opsOf Tryd.f26 17)) (S := fun w' => HeldC w w' ([(b, 31, #[.int .i64 M, .slice sa sn sc, .slice none 0 0, .slice na names0.length nc, .slice none 0 0, .slice none 0 0, .int .i64 0, .int .i64 0])])) [(0, true), (1, true), (2, true), (3, false), (4, false), (5, true), (6, false)] (by kernel_rfl) (by kernel_rfl) (by kernel_rfl) H.out ?_
                      refine runC_partV (b := b) (by kernel_rfl) (show opAt (opsOf Tryd.f26 17) 0 = some (some 83, .fieldAddr 31 (.tmp 12) 1, none) from by kernel_rfl) (by kernel_rfl) (by kernel_rfl) (by kernel_rfl) ?_
                      refine runC_cell (b := b) (j := 1) (v := .slice sa sn sc) load_its (show opAt (opsOf Tryd.f26 17) 1 = some (some 84, .load 28 (.tmp 83), none) from by kernel_rfl) (by kernel_rfl) (by kernel_rfl) (by kernel_rfl) (List.Mem.head _) rfl ?_
                      refine run_bldI0 (show opAt (opsOf Tryd.f26 17) 2 = some (some 85, .build 56 #[], none) from by kernel_rfl) (by kernel_rfl) (by kernel_rfl) ?_
                      refine tail_item2 noI (show opAt (opsOf Tryd.f26 17) 3 = some (some 86, .buildSlice 28 1 #[(0, (.tmp 85))], none) from by kernel_rfl) (by kernel_rfl) (by kernel_rfl) (show opAt (opsOf Tryd.f26 17) 4 = some (some 87, .call { callee := .builtin .append, args := [(.tmp 84), (.tmp 86)].toArray, argTypes := [28, 28].toArray }, none) from by kernel_rfl) (by kernel_rfl) (fun _ => by kernel_rfl) (show opAt (opsOf Tryd.f26 17) 5 = some (some 88, .fieldAddr 31 (.tmp 12) 1, none) from by kernel_rfl) (by kernel_rfl) (by kernel_rfl) (fun _ _ => by kernel_rfl) (show opAt (opsOf Tryd.f26 17) 6 = some (none, .store 28 (.tmp 88) (.tmp 87), none) from by kernel_rfl) (by kernel_rfl) (by kernel_rfl) H.out AP.out.row LN.out AP.out.size (Nat.le_trans AP.out.ge (Nat.le_of_lt AP.out.lt)) (List.Mem.head _) rfl AP.out.lt AP.out.ge (fun q hq => FAR.out q hq) ?_
                      rintro v' w2 ⟨sa, sn, sc, rfl⟩ hK hO hB hZ hR hG
                      simp only [putAll, Act.put, List.setIfInBounds_toArray, List.set_cons_zero, List.set_cons_succ]
                      have AN := Lib.hid (AP.out.next hK hO hB hZ hG)
                      clear hK hO hB hR hG hZ H FAR LN
                      go_wp2
                      go_roundw
                      case rel => first | exact ⟨k + 1, sa, sn, sc, by omega, by go_num, NX.out ▸ AN.out⟩ | ((repeat apply Exists.intro); exact ⟨⟨k + 1, sa, sn, sc, by omega, by go_num, NX.out ▸ AN.out⟩, rfl⟩)
                      case measure => simp [intOf]; omega
                  · obtain rfl : k = items0.length := by omega
                    have L1 := Lib.hid AP.out.vec
                    have L0 := Lib.hid (AP.out.blk KR0.out KR0_ne.out)
                    have FN := Lib.hid (AP.out.fin (r := w.heap.size + 1 + 1 + 1) HT.out HND.out (fun g hg => by have := HRG.out g hg; have := L10.out; omega) HCP.out (by have := AP.out.lt; have := GE.out; have := L10.out; omega))
                    obtain ⟨k0, k1, k2, k3, k4, k5, k6, k7⟩ := vec8 L1.out
                    obtain ⟨z0, z1, z2, z3, z4, z5, z6, z7⟩ := vec8 L0.out
                    obtain ⟨f0, f1, f2, f3, f4, f5, f6, f7⟩ := free8 L0.out
                    go_wp2
                    rw [XV.out.1, XV.out.2]
                    exact vec_endS rfl rfl rfl rfl L0.out FN.out.withS
          · have WHY := Lib.hid (ch_atm (y := YY) (n := NN) ⟨Q0.out, Q1.out, Q2.out⟩ HC.out (by rw [EK1.out, EK2.out]; exact hk))
            have hm4 : (4 : Int) ≤ max k1 k2 := by omega
            have hm4' : (4 : Int) ≤ (if k2 > k1 then k2 else k1) := by split <;> omega
            have XV := Lib.hid WHY.out
            obtain ⟨z0, z1, z2, z3, z4, z5, z6, z7⟩ := vec8 KR.out
            obtain ⟨f0, f1, f2, f3, f4, f5, f6, f7⟩ := free8 KR.out
            go_wp2
            rw [XV.out.1, XV.out.2]
            exact vec_endS rfl rfl rfl rfl KR.out (zeroS _ w _ (put8_below B.out (by omega)))
        · have WHY := Lib.hid (ch_non (y := YY) (n := NN) ⟨Q0.out, Q1.out, Q2.out⟩ hc)
          have SLO := Lib.hid (SLN.out _ B.out (fun h => hc (XC.out.2 h)))
          clear hc
          go_wp2_with fail
          with_reducible refine SLO.out.mono ?_
          rintro e w4 ⟨⟨si, ic, rfl⟩, b⟩
          have B := Lib.hid (below_then B.out b)
          have J0 := Lib.hid (blk_below b J0.out)
          have J1 := Lib.hid (blk_below b J1.out)
          have J2 := Lib.hid (blk_below b J2.out)
          have KR := Lib.hid (blk_below b KR.out)
          clear b
          have XV := Lib.hid WHY.out
          obtain ⟨z0, z1, z2, z3, z4, z5, z6, z7⟩ := vec8 KR.out
          obtain ⟨f0, f1, f2, f3, f4, f5, f6, f7⟩ := free8 KR.out
          go_wp2
          rw [XV.out.1, XV.out.2]
          exact vec_endS rfl rfl rfl rfl KR.out (zeroS _ w _ (put8_below B.out (by omega)))
      · rw [bB_no q2]
        have WHY := Lib.hid (ch_bad (t := TT) (y := YY) (n := NN) (fun h => q2 h.2.2))
        go_wp2_with fail
        with_reducible refine (BD.out _).mono ?_
        rintro e wb ⟨rfl, b⟩
        have B := Lib.hid (below_then B.out b)
        have J0 := Lib.hid (blk_below b J0.out)
        have J1 := Lib.hid (blk_below b J1.out)
        have J2 := Lib.hid (blk_below b J2.out)
        have KR := Lib.hid (blk_below b KR.out)
        clear b
        have XV := Lib.hid WHY.out
        obtain ⟨z0, z1, z2, z3, z4, z5, z6, z7⟩ := vec8 KR.out
        obtain ⟨f0, f1, f2, f3, f4, f5, f6, f7⟩ := free8 KR.out
        go_wp2
        rw [XV.out.1, XV.out.2]
        exact vec_endS rfl rfl rfl rfl KR.out (zeroS _ w _ (put8_below B.out (by omega)))
    · rw [bB_no q1]
      have WHY := Lib.hid (ch_bad (t := TT) (y := YY) (n := NN) (fun h => q1 h.2.1))
      go_wp2_with fail
      with_reducible refine (BD.out _).mono ?_
      rintro e wb ⟨rfl, b⟩
      have B := Lib.hid (below_then B.out b)
      have J0 := Lib.hid (blk_below b J0.out)
      have J1 := Lib.hid (blk_below b J1.out)
      have J2 := Lib.hid (blk_below b J2.out)
      have KR := Lib.hid (blk_below b KR.out)
      clear b
      have XV := Lib.hid WHY.out
      obtain ⟨z0, z1, z2, z3, z4, z5, z6, z7⟩ := vec8 KR.out
      obtain ⟨f0, f1, f2, f3, f4, f5, f6, f7⟩ := free8 KR.out
      go_wp2
      rw [XV.out.1, XV.out.2]
      exact vec_endS rfl rfl rfl rfl KR.out (zeroS _ w _ (put8_below B.out (by omega)))
  · rw [bB_no q0]
    have WHY := Lib.hid (ch_bad (t := TT) (y := YY) (n := NN) (fun h => q0 h.1))
    go_wp2_with fail
    with_reducible refine (BD.out _).mono ?_
    rintro e wb ⟨rfl, b⟩
    have B := Lib.hid (below_then B.out b)
    have J0 := Lib.hid (blk_below b J0.out)
    have J1 := Lib.hid (blk_below b J1.out)
    have J2 := Lib.hid (blk_below b J2.out)
    have KR := Lib.hid (blk_below b KR.out)
    clear b
    have XV := Lib.hid WHY.out
    obtain ⟨z0, z1, z2, z3, z4, z5, z6, z7⟩ := vec8 KR.out
    obtain ⟨f0, f1, f2, f3, f4, f5, f6, f7⟩ := free8 KR.out
    go_wp2
    rw [XV.out.1, XV.out.2]
    exact vec_endS rfl rfl rfl rfl KR.out (zeroS _ w _ (put8_below B.out (by omega)))
end Go.Proofs.YtjpdnabfpiengaaDoor
