/- ArithmeticOf of the reference. -/
import Derived.Test.YtjpdnabfpiengaaGreatRows
import Derived.Test.YtjpdnabfpiengaaGreatMg2
import Derived.Test.YtjpdnabfpiengaaGreatReserved
import Derived.Test.YtjpdnabfpiengaaGreatMg1
import Derived.Laws.EntriesVeiled
import Derived.WalkKit
import Derived.OwnWalk
import Derived.Deep.DeepCutAuto
import Derived.Lib.Hide
namespace Go.Proofs.YtjpdnabfpiengaaGreat
open Go.RowKit
set_option maxRecDepth 100000
set_option linter.unusedVariables false

theorem idx_cases (op : ByteArray) : (∃ i, i < 7 ∧ op = opA i ∧ idxA op = some i) ∨ ((∀ i, i < 7 → ¬ op = opA i) ∧ idxA op = none) := by
  by_cases h_0 : op = opA 0
  · exact .inl ⟨0, by omega, h_0, idx_0  h_0⟩
  by_cases h_1 : op = opA 1
  · exact .inl ⟨1, by omega, h_1, idx_1 h_0 h_1⟩
  by_cases h_2 : op = opA 2
  · exact .inl ⟨2, by omega, h_2, idx_2 h_0 h_1 h_2⟩
  by_cases h_3 : op = opA 3
  · exact .inl ⟨3, by omega, h_3, idx_3 h_0 h_1 h_2 h_3⟩
  by_cases h_4 : op = opA 4
  · exact .inl ⟨4, by omega, h_4, idx_4 h_0 h_1 h_2 h_3 h_4⟩
  by_cases h_5 : op = opA 5
  · exact .inl ⟨5, by omega, h_5, idx_5 h_0 h_1 h_2 h_3 h_4 h_5⟩
  by_cases h_6 : op = opA 6
  · exact .inl ⟨6, by omega, h_6, idx_6 h_0 h_1 h_2 h_3 h_4 h_5 h_6⟩
  refine .inr ⟨fun i hi => ?_, idx_no h_0 h_1 h_2 h_3 h_4 h_5 h_6⟩
  rcases (show i = 0 ∨ i = 1 ∨ i = 2 ∨ i = 3 ∨ i = 4 ∨ i = 5 ∨ i = 6 by omega) with rfl | rfl | rfl | rfl | rfl | rfl | rfl <;> assumption
theorem has_yes {op : ByteArray} {i : Nat} (hi : i < 7) (h : op = opA i) : decide (0 ≤ findF op opA 7 0) = true := by
  rw [findF_any]
  exact List.any_eq_true.2 ⟨i, by rw [List.mem_range'_1]; omega, by rw [h]; exact beq_self_eq_true _⟩
theorem has_no {op : ByteArray} (h : ∀ i, i < 7 → ¬ op = opA i) : decide (0 ≤ findF op opA 7 0) = false := by
  rw [findF_any, List.any_eq_false]
  intro k hk
  rw [List.mem_range'_1] at hk
  have := str_ne (h k (by omega))
  intro e
  have e' := eq_of_beq e
  rw [e'] at this
  simp at this
/-- The reference's view of a valid vector as numbers. -/
theorem specNumU (d : Nat) (v : Vec) (val : Value) (lo hi : Nat) (w : World) (hv : VecAt lo hi w d v val) (hval : ValidV v) :
    Calls Tryz.prog 33 #[val] w fun e w' => ∃ sa c, e = .returned (.tuple #[.slice sa (cntL v) c, .bool (bB (Counts v))]) ∧ (Counts v → ∃ k a2 n2 m2 a3 n3 m3 a4 n4 m4 a5 n5 m5 co en, val = .agg #[.int .i64 k, .slice sa (itL v) c, .slice a2 n2 m2, .slice a3 n3 m3, .slice a4 n4 m4, .slice a5 n5 m5, .int .i64 co, .int .i64 en]) ∧ Below w.heap.size w w' := by
  obtain ⟨k, items, parts, names, cls, levels, code, env⟩ := v
  obtain ⟨d', ai, ci, ap, cp, an, cn, ac, cc, al, cl, ed, rfl, hI, hN, hC, hL, hP⟩ := vecAt_open hv
  by_cases hc : Counts (.mk k items parts names cls levels code env)
  · rw [cntL_yes hc, bB_yes hc]
    refine (specNumsY k ai ap an ac al items.length ci parts.length cp names.length cn cls.length cc levels.length cl code env w hc.1 hc.2).mono ?_
    rintro e w' ⟨rfl, hb⟩
    exact ⟨ai, ci, rfl, fun _ => ⟨_, _, _, _, _, _, _, _, _, _, _, _, _, _, _, rfl⟩, hb⟩
  · rw [cntL_no hc, bB_no hc]
    refine (specNumsN k ai ap an ac al items.length ci parts.length cp names.length cn cls.length cc levels.length cl code env w hc).mono ?_
    rintro e w' ⟨⟨sa, c, rfl⟩, hb⟩
    exact ⟨sa, c, rfl, fun h => absurd h hc, hb⟩
set_option maxHeartbeats 8000000 in
theorem specArithmeticOf (d0 d1 : Nat) (a b : Vec) (op : ByteArray) (va vb : Value) (lo hi : Nat) (w : World) (h0 : VecAt lo hi w d0 a va) (h1 : VecAt lo hi w d1 b vb) (hhi : hi ≤ w.heap.size) (hsm0 : Small d0 a) (hsm1 : Small d1 b) :
    Calls Tryz.prog 14 #[.string op, va, vb] w (ResVS 1 (ariV (idxA op) a b) (ariS (idxA op) a b) w) := by
  have CA := Lib.hid (fun (w1 : World) (hb : Below w.heap.size w w1) => specIsVector d0 a va lo hi w1 (h0.below hb hhi) (Nat.le_trans hhi hb.size) hsm0)
  have CB := Lib.hid (fun (w1 : World) (hb : Below w.heap.size w w1) => specIsVector d1 b vb lo hi w1 (h1.below hb hhi) (Nat.le_trans hhi hb.size) hsm1)
  have SA := Lib.hid (fun (w1 : World) (hb : Below w.heap.size w w1) (hv : ValidV a) => specNumU d0 a va lo hi w1 (h0.below hb hhi) hv)
  have SB := Lib.hid (fun (w1 : World) (hb : Below w.heap.size w w1) (hv : ValidV b) => specNumU d1 b vb lo hi w1 (h1.below hb hhi) hv)
  have BD := Lib.hid (fun W => specBad W)
  obtain ⟨VA, hVA⟩ : ∃ V, a = V := ⟨_, rfl⟩
  obtain ⟨VB, hVB⟩ : ∃ V, b = V := ⟨_, rfl⟩
  rw [hVA] at CA SA ⊢
  rw [hVB] at CB SB ⊢
  obtain ⟨k0, items0, parts0, names0, cls0, lev0, code0, env0⟩ := a
  obtain ⟨d0', ai0, ci0, ap0, cp0, an0, cn0, ac0, cc0, al0, cl0, ed0, rfl, hI0, hN0, hC0, hL0, hP0⟩ := vecAt_open h0
  have ln0 : names0.length ≤ 1048576 := by subst ed0; exact hsm0.2.2.1
  have li0 : items0.length ≤ 1048576 := by subst ed0; exact hsm0.1
  have lp0 : parts0.length ≤ 1048576 := by subst ed0; exact hsm0.2.1
  obtain ⟨k1, items1, parts1, names1, cls1, lev1, code1, env1⟩ := b
  obtain ⟨d1', ai1, ci1, ap1, cp1, an1, cn1, ac1, cc1, al1, cl1, ed1, rfl, hI1, hN1, hC1, hL1, hP1⟩ := vecAt_open h1
  have ln1 : names1.length ≤ 1048576 := by subst ed1; exact hsm1.2.2.1
  have li1 : items1.length ≤ 1048576 := by subst ed1; exact hsm1.1
  have lp1 : parts1.length ≤ 1048576 := by subst ed1; exact hsm1.2.1
  have IA := Lib.hid (show itemsV VA = items0 by rw [← hVA]; rfl)
  have IB := Lib.hid (show itemsV VB = items1 by rw [← hVB]; rfl)
  have NA := Lib.hid (show namesV VA = names0 by rw [← hVA]; rfl)
  have NB := Lib.hid (show namesV VB = names1 by rw [← hVB]; rfl)
  have EA := Lib.hid (show itL VA = items0.length by rw [← hVA]; rfl)
  have EB := Lib.hid (show itL VB = items1.length by rw [← hVB]; rfl)
  have LA := Lib.hid (fun (h : ValidV VA) (hc : Counts VA) => (by rw [← hVA] at h hc ⊢; exact len_counts h hc : lenV k0 items0.length parts0.length = itL VA))
  have LB := Lib.hid (fun (h : ValidV VB) (hc : Counts VB) => (by rw [← hVB] at h hc ⊢; exact len_counts h hc : lenV k1 items1.length parts1.length = itL VB))
  have QA := Lib.hid (fun (h : ValidV VA) (hc : Counts VA) (i : Nat) (hi : i < items0.length) => (by rw [← hVA] at h hc; exact num_at h hc hi : NumIt (items0.getD i noI)))
  have QB := Lib.hid (fun (h : ValidV VB) (hc : Counts VB) (i : Nat) (hi : i < items1.length) => (by rw [← hVB] at h hc; exact num_at h hc hi : NumIt (items1.getD i noI)))
  have IX := Lib.hid (fun (i : Nat) (h : i < items0.length) => hI0.at_ (k := i) h)
  have IY := Lib.hid (fun (i : Nat) (h : i < items1.length) => hI1.at_ (k := i) h)
  have NM := Lib.hid (fun (N : Nat) (w1 : World) (hb : Below w.heap.size w w1) => specNames k0 names0 ai0 ap0 an0 ac0 al0 items0.length ci0 parts0.length cp0 cn0 cls0.length cc0 lev0.length cl0 code0 env0 k1 names1 ai1 ap1 an1 ac1 al1 items1.length ci1 parts1.length cp1 cn1 cls1.length cc1 lev1.length cl1 code1 env1 N lo hi w1 (hN0.below hb hhi) (hN1.below hb hhi) (Nat.le_trans hhi hb.size) ln0 ln1 li0 lp0 li1 lp1)
  clear h0 h1 hsm0 hsm1 hI0 hN0 hC0 hL0 hP0 hI1 hN1 hC1 hL1 hP1 ed0 ed1 hVA hVB li0 li1 lp0 lp1 ln0 ln1
  go_enter Tryz.func14, Tryz.ntmps14
  go_wp2_with fail
  obtain ⟨w1, hw1⟩ : ∃ W, ((w.alloc (.cells #[.int .i64 k0, .slice ai0 items0.length ci0, .slice ap0 parts0.length cp0, .slice an0 names0.length cn0, .slice ac0 cls0.length cc0, .slice al0 lev0.length cl0, .int .i64 code0, .int .i64 env0] 31)).alloc (.cells #[.int .i64 k1, .slice ai1 items1.length ci1, .slice ap1 parts1.length cp1, .slice an1 names1.length cn1, .slice ac1 cls1.length cc1, .slice al1 lev1.length cl1, .int .i64 code1, .int .i64 env1] 31)).alloc (.cells #[.int .i64 0, .slice none 0 0, .slice none 0 0, .slice none 0 0, .slice none 0 0, .slice none 0 0, .int .i64 0, .int .i64 0] 31) = W := ⟨_, rfl⟩
  have hsz1 : (w.alloc (.cells #[.int .i64 k0, .slice ai0 items0.length ci0, .slice ap0 parts0.length cp0, .slice an0 names0.length cn0, .slice ac0 cls0.length cc0, .slice al0 lev0.length cl0, .int .i64 code0, .int .i64 env0] 31)).heap.size = w.heap.size + 1 := by simp
  have hsz2 : ((w.alloc (.cells #[.int .i64 k0, .slice ai0 items0.length ci0, .slice ap0 parts0.length cp0, .slice an0 names0.length cn0, .slice ac0 cls0.length cc0, .slice al0 lev0.length cl0, .int .i64 code0, .int .i64 env0] 31)).alloc (.cells #[.int .i64 k1, .slice ai1 items1.length ci1, .slice ap1 parts1.length cp1, .slice an1 names1.length cn1, .slice ac1 cls1.length cc1, .slice al1 lev1.length cl1, .int .i64 code1, .int .i64 env1] 31)).heap.size = w.heap.size + 1 + 1 := by simp
  have B1 := Lib.hid (show Below w.heap.size w w1 from hw1 ▸ (below2 w _ _).alloc (by simp; omega) _)
  have KA := Lib.hid (show w1.heap[w.heap.size]? = some (.cells #[.int .i64 k0, .slice ai0 items0.length ci0, .slice ap0 parts0.length cp0, .slice an0 names0.length cn0, .slice ac0 cls0.length cc0, .slice al0 lev0.length cl0, .int .i64 code0, .int .i64 env0] 31 (0, 0)) from hw1 ▸ blk_old (blk_old (blk_new w _ rfl)))
  have KB := Lib.hid (show w1.heap[w.heap.size + 1]? = some (.cells #[.int .i64 k1, .slice ai1 items1.length ci1, .slice ap1 parts1.length cp1, .slice an1 names1.length cn1, .slice ac1 cls1.length cc1, .slice al1 lev1.length cl1, .int .i64 code1, .int .i64 env1] 31 (0, 0)) from hw1 ▸ blk_old (hsz1 ▸ blk_new (w.alloc (.cells #[.int .i64 k0, .slice ai0 items0.length ci0, .slice ap0 parts0.length cp0, .slice an0 names0.length cn0, .slice ac0 cls0.length cc0, .slice al0 lev0.length cl0, .int .i64 code0, .int .i64 env0] 31)) (.cells #[.int .i64 k1, .slice ai1 items1.length ci1, .slice ap1 parts1.length cp1, .slice an1 names1.length cn1, .slice ac1 cls1.length cc1, .slice al1 lev1.length cl1, .int .i64 code1, .int .i64 env1] 31) rfl))
  have KR := Lib.hid (show w1.heap[w.heap.size + 1 + 1]? = some (.cells #[.int .i64 0, .slice none 0 0, .slice none 0 0, .slice none 0 0, .slice none 0 0, .slice none 0 0, .int .i64 0, .int .i64 0] 31 (0, 0)) from hw1 ▸ hsz2 ▸ blk_new ((w.alloc (.cells #[.int .i64 k0, .slice ai0 items0.length ci0, .slice ap0 parts0.length cp0, .slice an0 names0.length cn0, .slice ac0 cls0.length cc0, .slice al0 lev0.length cl0, .int .i64 code0, .int .i64 env0] 31)).alloc (.cells #[.int .i64 k1, .slice ai1 items1.length ci1, .slice ap1 parts1.length cp1, .slice an1 names1.length cn1, .slice ac1 cls1.length cc1, .slice al1 lev1.length cl1, .int .i64 code1, .int .i64 env1] 31)) (.cells #[.int .i64 0, .slice none 0 0, .slice none 0 0, .slice none 0 0, .slice none 0 0, .slice none 0 0, .int .i64 0, .int .i64 0] 31) rfl)
  rw [hw1]
  clear hw1 hsz1 hsz2
  with_reducible refine (CA.out _ B1.out).mono ?_
  rintro e w2 ⟨rfl, b⟩
  have B2 := Lib.hid (below_then B1.out b)
  have KA := Lib.hid (blk_below b KA.out)
  have KB := Lib.hid (blk_below b KB.out)
  have KR := Lib.hid (blk_below b KR.out)
  clear b
  by_cases qa : ValidV VA
  · rw [bB_yes qa]
    obtain ⟨ka0, ka1, ka2, ka3, ka4, ka5, ka6, ka7⟩ := vec8 KA.out
    obtain ⟨kb0, kb1, kb2, kb3, kb4, kb5, kb6, kb7⟩ := vec8 KB.out
    go_wp2_with fail
    with_reducible refine (CB.out _ B2.out).mono ?_
    rintro e w3 ⟨rfl, b⟩
    have B3 := Lib.hid (below_then B2.out b)
    have KA := Lib.hid (blk_below b KA.out)
    have KB := Lib.hid (blk_below b KB.out)
    have KR := Lib.hid (blk_below b KR.out)
    clear b
    clear ka0 ka1 ka2 ka3 ka4 ka5 ka6 ka7 kb0 kb1 kb2 kb3 kb4 kb5 kb6 kb7
    by_cases qb : ValidV VB
    · rw [bB_yes qb]
      obtain ⟨ka0, ka1, ka2, ka3, ka4, ka5, ka6, ka7⟩ := vec8 KA.out
      obtain ⟨kb0, kb1, kb2, kb3, kb4, kb5, kb6, kb7⟩ := vec8 KB.out
      go_wp2_with fail
      with_reducible refine (SA.out _ B3.out qa).mono ?_
      rintro e w4 ⟨sx, cx, rfl, hsx, b⟩
      have B4 := Lib.hid (below_then B3.out b)
      have KA := Lib.hid (blk_below b KA.out)
      have KB := Lib.hid (blk_below b KB.out)
      have KR := Lib.hid (blk_below b KR.out)
      have SX := Lib.hid hsx
      clear b hsx
      clear ka0 ka1 ka2 ka3 ka4 ka5 ka6 ka7 kb0 kb1 kb2 kb3 kb4 kb5 kb6 kb7
      obtain ⟨ka0, ka1, ka2, ka3, ka4, ka5, ka6, ka7⟩ := vec8 KA.out
      obtain ⟨kb0, kb1, kb2, kb3, kb4, kb5, kb6, kb7⟩ := vec8 KB.out
      go_wp2_with fail
      with_reducible refine (SB.out _ B4.out qb).mono ?_
      rintro e w5 ⟨sy, cy, rfl, hsy, b⟩
      have B5 := Lib.hid (below_then B4.out b)
      have KA := Lib.hid (blk_below b KA.out)
      have KB := Lib.hid (blk_below b KB.out)
      have KR := Lib.hid (blk_below b KR.out)
      have SY := Lib.hid hsy
      clear b hsy
      clear ka0 ka1 ka2 ka3 ka4 ka5 ka6 ka7 kb0 kb1 kb2 kb3 kb4 kb5 kb6 kb7
      have c40 := cntL_le qa
      have d40 := cntL_le qb
      go_wp2_with fail
      with_reducible refine (specSize (cntL VA) (cntL VB) _ (by omega) (by omega)).mono ?_
      rintro e w5' ⟨rfl, rfl⟩
      go_wp2_with fail
      obtain ⟨w6, hw6⟩ : ∃ W, w5.alloc (.cells #[.string ⟨#[43]⟩, .string ⟨#[45]⟩, .string ⟨#[42]⟩, .string ⟨#[47]⟩, .string ⟨#[94]⟩, .string ⟨#[37, 37]⟩, .string ⟨#[37, 47, 37]⟩] 9) = W := ⟨_, rfl⟩
      have B6 := Lib.hid (show Below w.heap.size w w6 from hw6 ▸ B5.out.alloc B5.out.size _)
      have KO := Lib.hid (show w6.heap[w5.heap.size]? = some (.cells #[.string ⟨#[43]⟩, .string ⟨#[45]⟩, .string ⟨#[42]⟩, .string ⟨#[47]⟩, .string ⟨#[94]⟩, .string ⟨#[37, 37]⟩, .string ⟨#[37, 47, 37]⟩] 9 (0, 0)) from hw6 ▸ blk_new w5 _ rfl)
      have KA := Lib.hid (show w6.heap[w.heap.size]? = some (.cells #[.int .i64 k0, .slice ai0 items0.length ci0, .slice ap0 parts0.length cp0, .slice an0 names0.length cn0, .slice ac0 cls0.length cc0, .slice al0 lev0.length cl0, .int .i64 code0, .int .i64 env0] 31 (0, 0)) from hw6 ▸ blk_old KA.out)
      have KB := Lib.hid (show w6.heap[w.heap.size + 1]? = some (.cells #[.int .i64 k1, .slice ai1 items1.length ci1, .slice ap1 parts1.length cp1, .slice an1 names1.length cn1, .slice ac1 cls1.length cc1, .slice al1 lev1.length cl1, .int .i64 code1, .int .i64 env1] 31 (0, 0)) from hw6 ▸ blk_old KB.out)
      have KR := Lib.hid (show w6.heap[w.heap.size + 1 + 1]? = some (.cells #[.int .i64 0, .slice none 0 0, .slice none 0 0, .slice none 0 0, .slice none 0 0, .slice none 0 0, .int .i64 0, .int .i64 0] 31 (0, 0)) from hw6 ▸ blk_old KR.out)
      rw [hw6]
      clear hw6
      have HS := Lib.hid (specHas op w6 w5.heap.size 7 7 (by omega) opA (fun i hi => by
        refine cellOf KO.out ?_
        rcases (show i = 0 ∨ i = 1 ∨ i = 2 ∨ i = 3 ∨ i = 4 ∨ i = 5 ∨ i = 6 by omega) with rfl | rfl | rfl | rfl | rfl | rfl | rfl <;> rfl))
      have QQ := Lib.hid (And.intro qa qb)
      rcases idx_cases op with ⟨i, hi7, hop, hix⟩ | ⟨hop, hix⟩
      · rw [has_yes hi7 hop] at HS
        have EI := Lib.hid hix
        have HI := Lib.hid hi7
        subst hop
        clear hix hi7
        with_reducible refine HS.out.mono ?_
        rintro e w6' ⟨rfl, rfl⟩
        by_cases hc : Counts VA ∧ Counts VB
        · rw [bB_yes hc.1, bB_yes hc.2]
          rw [cntL_yes hc.1] at c40
          rw [cntL_yes hc.2] at d40
          rw [cntL_yes hc.1, cntL_yes hc.2]
          have CC := Lib.hid hc
          have hz' : sizeL (itL VA) (itL VB) = lgcN VA VB := rfl
          rw [hz']
          by_cases hz : 0 ≤ lgcN VA VB
          · have XX := Lib.hid (ari_yes (i := i) QQ.out hc hz)
            have PZ := Lib.hid (fun (h : 0 < lgcN VA VB) => sizeL_pos h)
            have N40 : lgcN VA VB ≤ 40 := sizeL_le c40 d40
            obtain ⟨k1', x2, x3, x4, x5, x6, x7, x8, x9, x10, x11, x12, x13, x14, x15, hval⟩ := SX.out hc.1
            obtain ⟨k2', y2, y3, y4, y5, y6, y7, y8, y9, y10, y11, y12, y13, y14, y15, hval2⟩ := SY.out hc.2
            simp only [Value.agg.injEq, Array.mk.injEq, List.cons.injEq, Value.slice.injEq, and_true] at hval hval2
            obtain ⟨-, ⟨rfl, -, rfl⟩, -⟩ := hval
            obtain ⟨-, ⟨rfl, -, rfl⟩, -⟩ := hval2
            have GA := Lib.hid (QA.out qa hc.1)
            have GB := Lib.hid (QB.out qb hc.2)
            have L0 := Lib.hid (LA.out qa hc.1)
            have L1 := Lib.hid (LB.out qb hc.2)
            obtain ⟨N, hN⟩ : ∃ N : Nat, lgcN VA VB = N := ⟨(lgcN VA VB).toNat, by omega⟩
            rw [hN] at XX PZ N40 ⊢
            rw [EA.out, EB.out] at XX PZ
            rw [EA.out] at c40
            rw [EB.out] at d40
            rw [EA.out, EB.out]
            rw [IA.out, IB.out, NA.out, NB.out, Int.toNat_natCast] at XX
            have NMN := Lib.hid (fun (w1 : World) (hb : Below w.heap.size w w1) => (by have h := NM.out N w1 hb; rw [L0.out, L1.out, EA.out, EB.out] at h; exact h))
            clear hz hN hz' hc qa qb SX SY NM CA CB SA SB BD L0 L1 LA LB QA QB
            obtain ⟨ka0, ka1, ka2, ka3, ka4, ka5, ka6, ka7⟩ := vec8 KA.out
            obtain ⟨kb0, kb1, kb2, kb3, kb4, kb5, kb6, kb7⟩ := vec8 KB.out
            go_wp2_with fail
            with_reducible refine (NMN.out _ B6.out).mono ?_
            rintro e w7 ⟨⟨v', rfl, hcp⟩, hb⟩
            obtain ⟨na, nc, Fn, rfl, hT, hnd, hrg, hcap⟩ := hcp
            have KR7 := Lib.hid (blk_below hb KR.out)
            have B7 := Lib.hid (below_then B6.out hb)
            have hr6 := (Array.getElem?_eq_some_iff.1 KR.out).1
            obtain ⟨nms, hnms⟩ : ∃ l, namesL items0.length items1.length N names0 names1 = l := ⟨_, rfl⟩
            rw [hnms] at hT hcap XX ⊢
            obtain ⟨m, hm⟩ : ∃ m, items0.length = m := ⟨_, rfl⟩
            obtain ⟨n, hn⟩ : ∃ n, items1.length = n := ⟨_, rfl⟩
            rw [hm] at XX PZ c40 IX GA ⊢
            rw [hn] at XX PZ d40 IY GB ⊢
            have S0 := Lib.hid (show AppN w (w7.alloc (.cells #[.int .i64 2, .slice none 0 0, .slice none 0 0, .slice na nms.length nc, .slice none 0 0, .slice none 0 0, .int .i64 0, .int .i64 0] 31)) (w.heap.size + 1 + 1) w7.heap.size 2 (itF (fun j => fnA i (items0.getD (j % m) noI) (items1.getD (j % n) noI)) 0) none 0 0 nms na nc Fn from
              ⟨blk_old KR7.out, blk_new w7 _ rfl, ⟨rfl, .inl ⟨rfl, rfl⟩⟩, hT.kept (fun g hg => (below1 w7 _).block g (hrg g hg).2), hcap, hnd, fun g hg => by have h1 := hrg g hg; have h2 := B6.out.size; exact ⟨by omega, by omega, by omega⟩, B7.out.alloc B7.out.size _, by omega, (Array.getElem?_eq_some_iff.1 KR7.out).1⟩)
            clear hm hn hnms hT hnd hrg hcap hb
            clear ka0 ka1 ka2 ka3 ka4 ka5 ka6 ka7 kb0 kb1 kb2 kb3 kb4 kb5 kb6 kb7
            go_wp2
            obtain ⟨b, hb⟩ : ∃ b, w7.heap.size = b := ⟨_, rfl⟩
            rw [hb] at S0 ⊢
            clear hb
            go_loopw [14] (fun i' wr => ∃ (k : Nat) (sa : Option Addr) (sn sc : Nat), k ≤ N ∧ i' = .int .i64 k ∧ AppN w wr (w.heap.size + 1 + 1) b 2 (itF (fun j => fnA i (items0.getD (j % m) noI) (items1.getD (j % n) noI)) k) sa sn sc nms na nc Fn) (fun i _ => N - (intOf i).toNat)
            case atStart => exact ⟨0, none, 0, 0, Nat.zero_le _, rfl, S0.out⟩
            case round =>
              obtain ⟨k, sa, sn, sc, hk, rfl, hap⟩ := hrel
              have AP := Lib.hid hap
              clear hap
              by_cases hlt : k < N
              · obtain ⟨hm0, hn0⟩ := PZ.out (by omega)
                obtain ⟨bx, ox, rfl, hbx', cx0, cx1, cx2⟩ := IX.out (k % m) (Nat.mod_lt k hm0)
                obtain ⟨bY, oy, rfl, hby', cy0, cy1, cy2⟩ := IY.out (k % n) (Nat.mod_lt k hn0)
                have hbx : bx < w.heap.size := by omega
                have hby : bY < w.heap.size := by omega
                have CX0 := Lib.hid cx0
                have CX1 := Lib.hid cx1
                have CX2 := Lib.hid (show w.cell? ⟨bx, ox + (k % m) * 3 + 2, none⟩ = some (.string (items0.getD (k % m) noI).t) from cx2)
                have CY0 := Lib.hid cy0
                have CY1 := Lib.hid cy1
                have CY2 := Lib.hid (show w.cell? ⟨bY, oy + (k % n) * 3 + 2, none⟩ = some (.string (items1.getD (k % n) noI).t) from cy2)
                have CO := Lib.hid (fun W => specApply i HI.out (items0.getD (k % m) noI) (items1.getD (k % n) noI) W (GA.out (k % m) (Nat.mod_lt k hm0)).t0 (GB.out (k % n) (Nat.mod_lt k hn0)).t0)
                have LN := Lib.hid (show (itF (fun j => fnA i (items0.getD (j % m) noI) (items1.getD (j % n) noI)) k).length ≤ 1048576 by rw [itF_len]; omega)
                have NX := Lib.hid (itF_succ (fun j => fnA i (items0.getD (j % m) noI) (items1.getD (j % n) noI)) k)
                clear cx0 cx1 cx2 cy0 cy1 cy2
                go_upto_region 16 with (fail)
                have H := Lib.hid AP.out.heldC
                refine run_region (ops := (opsOf Tryz.f14 16)) (S := fun w' => HeldC w w' ([((w.heap.size + 1 + 1), 31, #[.int .i64 0, .slice none 0 0, .slice none 0 0, .slice none 0 0, .slice none 0 0, .slice none 0 0, .int .i64 0, .int .i64 0]), (b, 31, #[.int .i64 2, .slice sa sn sc, .slice none 0 0, .slice na nms.length nc, .slice none 0 0, .slice none 0 0, .int .i64 0, .int .i64 0])])) [(0, true), (1, true), (2, true), (3, true), (4, true), (5, true), (6, true), (7, true), (8, true), (9, true), (10, true), (11, true), (12, true), (13, true), (14, true), (15, true), (16, true), (17, false), (18, false), (19, false), (20, true), (21, false)] (by kernel_rfl) (by kernel_rfl) (by kernel_rfl) (by kernel_rfl) (by kernel_rfl) (fun _ _ _ _ _ h => h) (heldC_drew H.out) ?_
                have H := Lib.hid (heldC_drew H.out)
                have AP := Lib.hid (AP.out.keep (below_drew' (Below.refl _ _)))
                have W0 := Lib.hid (show w.heap.size ≤ b + 1 by have := AP.out.o1; have := AP.out.o2; omega)
                have B0' := Lib.hid (show w.heap.size ≤ b by have := AP.out.o1; have := AP.out.o2; omega)
                have FAR := Lib.hid (show ∀ q ∈ ([((w.heap.size + 1 + 1), 31, #[.int .i64 0, .slice none 0 0, .slice none 0 0, .slice none 0 0, .slice none 0 0, .slice none 0 0, .int .i64 0, .int .i64 0]), (b, 31, #[.int .i64 2, .slice sa sn sc, .slice none 0 0, .slice na nms.length nc, .slice none 0 0, .slice none 0 0, .int .i64 0, .int .i64 0])] : List (Nat × TypeId × Array Value)), ∀ j, (Value.slice sa sn sc).ownBlock = some j → q.1 ≠ j from fun q hq j hj => by
                  have h1 := (AP.out.row.lt j hj).1
                  have h2 := AP.out.o2
                  rcases List.mem_cons.1 hq with rfl | hq
                  · simp only; omega
                  · obtain rfl := List.mem_singleton.1 hq
                    simp only; omega)
                refine runC_partV (b := b) (by kernel_rfl) (show opAt (opsOf Tryz.f14 16) 0 = some (some 69, .fieldAddr 31 (.tmp 13) 1, none) from by kernel_rfl) (by kernel_rfl) (by kernel_rfl) (by kernel_rfl) ?_
                refine runC_cell (b := b) (j := 1) (v := .slice sa sn sc) load_its (show opAt (opsOf Tryz.f14 16) 1 = some (some 70, .load 28 (.tmp 69), none) from by kernel_rfl) (by kernel_rfl) (by kernel_rfl) (by kernel_rfl) (List.Mem.tail _ (List.Mem.head _)) rfl ?_
                refine run_mov (v := .string (opA i)) (show opAt (opsOf Tryz.f14 16) 2 = some (some 71, .move (.tmp 0), none) from by kernel_rfl) (by kernel_rfl) (by kernel_rfl) (by kernel_rfl) ?_
                refine run_mov (v := .slice (some ⟨bx, ox, none⟩) m ci0) (show opAt (opsOf Tryz.f14 16) 3 = some (some 72, .move (.tmp 8), none) from by kernel_rfl) (by kernel_rfl) (by kernel_rfl) (by kernel_rfl) ?_
                refine run_mov (v := .int .i64 ((k : Int))) (show opAt (opsOf Tryz.f14 16) 4 = some (some 73, .move (.tmp 14), none) from by kernel_rfl) (by kernel_rfl) (by kernel_rfl) (by kernel_rfl) ?_
                refine run_mov (v := .slice (some ⟨bx, ox, none⟩) m ci0) (show opAt (opsOf Tryz.f14 16) 5 = some (some 74, .move (.tmp 8), none) from by kernel_rfl) (by kernel_rfl) (by kernel_rfl) (by kernel_rfl) ?_
                refine run_len (b := (some ⟨bx, ox, none⟩)) (n := m) (c := ci0) (show opAt (opsOf Tryz.f14 16) 6 = some (some 75, .call { callee := .builtin .len, args := [(.tmp 74)].toArray, argTypes := [28].toArray }, none) from by kernel_rfl) (by kernel_rfl) (by kernel_rfl) (by kernel_rfl) (by kernel_rfl) ?_
                refine run_rem (k := .i64) (p := (k : Int)) (q := (m : Int)) (z := ((k % m : Nat) : Int)) (show opAt (opsOf Tryz.f14 16) 7 = some (some 76, .binOp .rem 3 (.tmp 73) (.tmp 75) 3, none) from by kernel_rfl) (by kernel_rfl) (by kernel_rfl) (by kernel_rfl) (by kernel_rfl) ⟨by omega, rfl⟩ ?_
                refine run_idx3 (n := m) (c := ci0) (b := bx) (off := ox) (k := (k % m)) (show opAt (opsOf Tryz.f14 16) 8 = some (some 77, .indexAddr 28 (.tmp 72) (.tmp 76), none) from by kernel_rfl) (by kernel_rfl) (by kernel_rfl) (by kernel_rfl) (by kernel_rfl) (Nat.mod_lt k hm0) ?_
                refine runC_oldI (b := bx) (j := ox + (k % m) * 3) (z := (items0.getD (k % m) noI)) (show opAt (opsOf Tryz.f14 16) 9 = some (some 78, .load 62 (.tmp 77), none) from by kernel_rfl) (by kernel_rfl) (by kernel_rfl) (by kernel_rfl) hbx CX0.out CX1.out CX2.out ?_
                refine run_mov (v := .slice (some ⟨bY, oy, none⟩) n ci1) (show opAt (opsOf Tryz.f14 16) 10 = some (some 79, .move (.tmp 10), none) from by kernel_rfl) (by kernel_rfl) (by kernel_rfl) (by kernel_rfl) ?_
                refine run_mov (v := .int .i64 ((k : Int))) (show opAt (opsOf Tryz.f14 16) 11 = some (some 80, .move (.tmp 14), none) from by kernel_rfl) (by kernel_rfl) (by kernel_rfl) (by kernel_rfl) ?_
                refine run_mov (v := .slice (some ⟨bY, oy, none⟩) n ci1) (show opAt (opsOf Tryz.f14 16) 12 = some (some 81, .move (.tmp 10), none) from by kernel_rfl) (by kernel_rfl) (by kernel_rfl) (by kernel_rfl) ?_
                refine run_len (b := (some ⟨bY, oy, none⟩)) (n := n) (c := ci1) (show opAt (opsOf Tryz.f14 16) 13 = some (some 82, .call { callee := .builtin .len, args := [(.tmp 81)].toArray, argTypes := [28].toArray }, none) from by kernel_rfl) (by kernel_rfl) (by kernel_rfl) (by kernel_rfl) (by kernel_rfl) ?_
                refine run_rem (k := .i64) (p := (k : Int)) (q := (n : Int)) (z := ((k % n : Nat) : Int)) (show opAt (opsOf Tryz.f14 16) 14 = some (some 83, .binOp .rem 3 (.tmp 80) (.tmp 82) 3, none) from by kernel_rfl) (by kernel_rfl) (by kernel_rfl) (by kernel_rfl) (by kernel_rfl) ⟨by omega, rfl⟩ ?_
                refine run_idx3 (n := n) (c := ci1) (b := bY) (off := oy) (k := (k % n)) (show opAt (opsOf Tryz.f14 16) 15 = some (some 84, .indexAddr 28 (.tmp 79) (.tmp 83), none) from by kernel_rfl) (by kernel_rfl) (by kernel_rfl) (by kernel_rfl) (by kernel_rfl) (Nat.mod_lt k hn0) ?_
                refine runC_oldI (b := bY) (j := oy + (k % n) * 3) (z := (items1.getD (k % n) noI)) (show opAt (opsOf Tryz.f14 16) 16 = some (some 85, .load 62 (.tmp 84), none) from by kernel_rfl) (by kernel_rfl) (by kernel_rfl) (by kernel_rfl) hby CY0.out CY1.out CY2.out ?_
                refine run_call (args := [.string (opA i), .agg #[.int .i64 (items0.getD (k % m) noI).n, .int .i64 (items0.getD (k % m) noI).d, .string (items0.getD (k % m) noI).t], .agg #[.int .i64 (items1.getD (k % n) noI).n, .int .i64 (items1.getD (k % n) noI).d, .string (items1.getD (k % n) noI).t]]) (show opAt (opsOf Tryz.f14 16) 17 = some (some 86, .call { callee := .value (.func 37), args := [(.tmp 71), (.tmp 78), (.tmp 85)].toArray, argTypes := [9, 62, 62].toArray }, none) from by kernel_rfl) (by kernel_rfl) (by kernel_rfl) (by kernel_rfl) (by kernel_rfl) ?_
                refine (CO.out _).mono ?_
                rintro en rw1 ⟨rfl, hb⟩
                refine ⟨_, rfl, heldC_call H.out hb, ?_⟩
                have H := Lib.hid (heldC_call H.out hb)
                have AP := Lib.hid (AP.out.keep hb)
                clear hb
                refine tail_item2 (fnA i (items0.getD (k % m) noI) (items1.getD (k % n) noI)) (show opAt (opsOf Tryz.f14 16) 18 = some (some 87, .buildSlice 28 1 #[(0, (.tmp 86))], none) from by kernel_rfl) (by kernel_rfl) (by kernel_rfl) (show opAt (opsOf Tryz.f14 16) 19 = some (some 88, .call { callee := .builtin .append, args := [(.tmp 70), (.tmp 87)].toArray, argTypes := [28, 28].toArray }, none) from by kernel_rfl) (by kernel_rfl) (fun _ => by kernel_rfl) (show opAt (opsOf Tryz.f14 16) 20 = some (some 89, .fieldAddr 31 (.tmp 13) 1, none) from by kernel_rfl) (by kernel_rfl) (by kernel_rfl) (fun _ _ => by kernel_rfl) (show opAt (opsOf Tryz.f14 16) 21 = some (none, .store 28 (.tmp 89) (.tmp 88), none) from by kernel_rfl) (by kernel_rfl) (by kernel_rfl) H.out AP.out.row LN.out (Nat.succ_le_of_lt AP.out.big) W0.out (List.Mem.tail _ (List.Mem.head _)) rfl (Nat.lt_succ_self _) B0'.out (fun q hq => FAR.out q hq) ?_
                rintro v' W8 ⟨sa, sn, sc, rfl⟩ hK hO hB hZ hR hG
                simp only [putAll, Act.put, List.setIfInBounds_toArray, List.set_cons_zero, List.set_cons_succ]
                have AN := Lib.hid (AP.out.next hK hO hB (hR _ (List.Mem.head _) (by have := AP.out.o2; simp only; omega)) (fun g hg => hG g (by have := AP.out.rng g hg; have := AP.out.big; omega) (by have := AP.out.rng g hg; omega) (fun j hj => by have := (AP.out.row.lt j hj).1; have := AP.out.rng g hg; omega)))
                clear hK hO hB hR hG H FAR LN
                go_wp2
                go_roundw
                case rel => exact ⟨k + 1, sa, sn, sc, by omega, by go_num, NX.out ▸ AN.out⟩
                case measure => simp [intOf]; omega
              · obtain rfl : k = N := by omega
                have K1 := Lib.hid AP.out.vec
                have K0 := Lib.hid AP.out.res
                have FN := Lib.hid AP.out.fin
                obtain ⟨k0', k1', k2', k3', k4', k5', k6', k7'⟩ := vec8 K1.out
                obtain ⟨z0, z1, z2, z3, z4, z5, z6, z7⟩ := vec8 K0.out
                obtain ⟨f0, f1, f2, f3, f4, f5, f6, f7⟩ := free8 K0.out
                go_wp2
                rw [EI.out, XX.out.1, XX.out.2]
                exact vec_endS rfl rfl rfl rfl K0.out FN.out.withS
          · have XX := Lib.hid (ari_len (i := i) QQ.out hc hz)
            obtain ⟨z, hzz⟩ : ∃ z, lgcN VA VB = z := ⟨_, rfl⟩
            rw [hzz] at hz ⊢
            have hzn : z < 0 := by omega
            clear hz hzz hz' hc qa qb
            obtain ⟨z0, z1, z2, z3, z4, z5, z6, z7⟩ := vec8 KR.out
            obtain ⟨f0, f1, f2, f3, f4, f5, f6, f7⟩ := free8 KR.out
            go_wp2
            rw [EI.out, XX.out.1, XX.out.2]
            exact vec_endS rfl rfl rfl rfl KR.out (zeroS _ w _ (put8_below B6.out (show w.heap.size ≤ w.heap.size + 1 + 1 by omega)))
        · have XX := Lib.hid (ari_non (i := i) QQ.out hc)
          obtain ⟨z, hzz⟩ : ∃ z, sizeL (cntL VA) (cntL VB) = z := ⟨_, rfl⟩
          rw [hzz]
          have hcc : bB (Counts VA) = false ∨ (bB (Counts VA) = true ∧ bB (Counts VB) = false) := by
            by_cases h : Counts VA
            · exact .inr ⟨bB_yes h, bB_no (fun k => hc ⟨h, k⟩)⟩
            · exact .inl (bB_no h)
          clear hc hzz qa qb
          rcases hcc with hcc | ⟨hcc, hcc2⟩
          · rw [hcc]
            clear hcc
            obtain ⟨z0, z1, z2, z3, z4, z5, z6, z7⟩ := vec8 KR.out
            obtain ⟨f0, f1, f2, f3, f4, f5, f6, f7⟩ := free8 KR.out
            go_wp2
            rw [EI.out, XX.out.1, XX.out.2]
            exact vec_endS rfl rfl rfl rfl KR.out (zeroS _ w _ (put8_below B6.out (show w.heap.size ≤ w.heap.size + 1 + 1 by omega)))
          · rw [hcc, hcc2]
            clear hcc hcc2
            obtain ⟨z0, z1, z2, z3, z4, z5, z6, z7⟩ := vec8 KR.out
            obtain ⟨f0, f1, f2, f3, f4, f5, f6, f7⟩ := free8 KR.out
            go_wp2
            rw [EI.out, XX.out.1, XX.out.2]
            exact vec_endS rfl rfl rfl rfl KR.out (zeroS _ w _ (put8_below B6.out (show w.heap.size ≤ w.heap.size + 1 + 1 by omega)))
      · rw [has_no hop] at HS
        have EI := Lib.hid hix
        have XX := Lib.hid (ari_unk QQ.out)
        clear hix hop qa qb
        with_reducible refine HS.out.mono ?_
        rintro e w6' ⟨rfl, rfl⟩
        obtain ⟨z0, z1, z2, z3, z4, z5, z6, z7⟩ := vec8 KR.out
        obtain ⟨f0, f1, f2, f3, f4, f5, f6, f7⟩ := free8 KR.out
        go_wp2
        rw [EI.out, XX.out.1, XX.out.2]
        exact vec_endS rfl rfl rfl rfl KR.out (zeroS _ w _ (put8_below B6.out (show w.heap.size ≤ w.heap.size + 1 + 1 by omega)))
    · rw [bB_no qb]
      have XX := Lib.hid (ari_bad (oi := idxA op) (fun h : ValidV VA ∧ ValidV VB => qb h.2))
      clear qa qb
      go_wp2_with fail
      with_reducible refine (BD.out _).mono ?_
      rintro e w9 ⟨rfl, b⟩
      have B9 := Lib.hid (below_then B3.out b)
      have K0 := Lib.hid (blk_below b KR.out)
      clear b
      obtain ⟨z0, z1, z2, z3, z4, z5, z6, z7⟩ := vec8 K0.out
      obtain ⟨f0, f1, f2, f3, f4, f5, f6, f7⟩ := free8 K0.out
      go_wp2
      rw [XX.out.1, XX.out.2]
      exact vec_endS rfl rfl rfl rfl K0.out (zeroS _ w _ (put8_below B9.out (show w.heap.size ≤ w.heap.size + 1 + 1 by omega)))
  · rw [bB_no qa]
    have XX := Lib.hid (ari_bad (oi := idxA op) (fun h : ValidV VA ∧ ValidV VB => qa h.1))
    clear qa
    go_wp2_with fail
    with_reducible refine (BD.out _).mono ?_
    rintro e w9 ⟨rfl, b⟩
    have B9 := Lib.hid (below_then B2.out b)
    have K0 := Lib.hid (blk_below b KR.out)
    clear b
    obtain ⟨z0, z1, z2, z3, z4, z5, z6, z7⟩ := vec8 K0.out
    obtain ⟨f0, f1, f2, f3, f4, f5, f6, f7⟩ := free8 K0.out
    go_wp2
    rw [XX.out.1, XX.out.2]
    exact vec_endS rfl rfl rfl rfl K0.out (zeroS _ w _ (put8_below B9.out (show w.heap.size ≤ w.heap.size + 1 + 1 by omega)))
end Go.Proofs.YtjpdnabfpiengaaGreat

/- Laws on two vectors: what a region that calls on both keeps. -/
namespace Go.Proofs.YtjpdnabfpiengaaGreat
set_option maxRecDepth 100000
open Go.RowKit
set_option linter.unusedVariables false

/-- A vector that may be read. -/
structure VatH (d : Nat) (v : Vec) (y : Value) (w : World) : Prop where
  out : VecAt 0 w.heap.size w d v y
theorem VatH.keep {d : Nat} {v : Vec} {y : Value} {w w1 : World} (h : VatH d v y w) (hb : Below w.heap.size w w1) : VatH d v y w1 := ⟨VecAt.wide (Nat.le_refl _) hb.size _ _ _ (h.out.below hb (Nat.le_refl _))⟩
theorem ResV.vatH {d : Nat} {v : Vec} {y : Value} {lo : Nat} {w : World} (h : Own d v y lo w.heap.size w) : VatH d v y w := ⟨h.vat (Nat.le_refl _)⟩
/-- A vector of one's own in a range, kept. -/
structure OwnH (d : Nat) (V : Vec) (y : Value) (lo hi : Nat) (w : World) : Prop where
  own : Own d V y lo hi w
  hh : hi ≤ w.heap.size
theorem OwnH.keep {d : Nat} {V : Vec} {y : Value} {lo hi : Nat} {w w1 : World} (h : OwnH d V y lo hi w) (hb : Below w.heap.size w w1) : OwnH d V y lo hi w1 := ⟨h.own.below hb h.hh, Nat.le_trans h.hh hb.size⟩
theorem Own.rowO {d : Nat} {V : Vec} {y : Value} {lo hi g : Nat} {c : Array Value} {w : World} (h : Own d V y lo hi w) (hg : g < lo ∨ hi ≤ g) : Own d V y lo hi (w.setRow g c) := by
  obtain ⟨F, q1, q2, q3⟩ := h.out
  exact ⟨F, q1.kept _ _ _ _ (fun b hb => row_old rfl (by have := q3 b hb; omega)), q2, q3⟩
/-- A vector that was made and put into a variable of its own. -/
structure MadeU (V : Vec) (wk wx : World) (g : Nat) (C : Array Value) : Prop where
  blk : wx.heap[g]? = some (.cells C 31 (0, 0))
  own : Own 1 V (.agg C) wk.heap.size wx.heap.size wx
  below : Below wk.heap.size wk wx
  lo : wk.heap.size ≤ g
theorem MadeU.cells {V : Vec} {wk wx : World} {g : Nat} {C : Array Value} (h : MadeU V wk wx g C) : ∃ (k : Int) (a1 : Option Addr) (n1 m1 : Nat) (a2 : Option Addr) (n2 m2 : Nat) (a3 : Option Addr) (n3 m3 : Nat) (a4 : Option Addr) (n4 m4 : Nat) (a5 : Option Addr) (n5 m5 : Nat) (code env : Int), C = #[.int .i64 k, .slice a1 n1 m1, .slice a2 n2 m2, .slice a3 n3 m3, .slice a4 n4 m4, .slice a5 n5 m5, .int .i64 code, .int .i64 env] := by
  obtain ⟨k, a1, n1, m1, a2, n2, m2, a3, n3, m3, a4, n4, m4, a5, n5, m5, c, e, h'⟩ := h.own.agg
  simp only [Value.agg.injEq] at h'
  exact ⟨k, a1, n1, m1, a2, n2, m2, a3, n3, m3, a4, n4, m4, a5, n5, m5, c, e, h'⟩
section
variable {P : Program} {ops : Array Oper} {Q : Exit → Act → World → Prop} {S : World → Prop}
variable {r : List (Nat × Bool)} {a : Act} {e : List (Nat × Value)} {w : World} {i d : Nat} {g : Option (Nat × Bool)} {v : Value}
/-- A part of a call's several results. -/
theorem run_extract {x : Operand} {k : Nat} {vs : Array Value} (ho : opAt ops i = some (some d, .extract x k, g)) (hd : Nat.blt d a.tmps.size = true) (hw : wantE ops a e g = some true)
    (hx : lookO a e x = .tuple vs) (hv : vs[k]? = some v) (h : RunE P ops Q S r a ((d, v) :: e) w) : RunE P ops Q S ((i, true) :: r) a e w :=
  run_yield ho hd hw (fun o w' h1 _ => by
    unfold execOp; rw [h1]; simp only [hx]
    refine run_v ?_
    unfold Instr.extract
    simp only [hv]
    rfl) h
end
/-- A mark that goes on from k. -/
theorem markOwnK (d : Nat) (V : Vec) (y : Value) (k : Nat) (lo hi : Nat) (w : World) (h : Own d V y lo hi w) (hh : hi ≤ w.heap.size) (hs : Small d V) (hk : 1 ≤ k) (hc : k + cntM d V ≤ 8000000) :
    Calls Tryz.prog 9 #[y, .int .i64 k] w fun e w' => e = .returned (.int .i64 ((k + cntM d V : Nat) : Int)) ∧ Within lo hi w w' := by
  obtain ⟨F, h1, h2, h3⟩ := h.out
  refine (markVec d V y k F w h1 h2 (fun b hb => by have := h3 b hb; omega) hs hk hc).mono ?_
  rintro e w' ⟨rfl, ho, t⟩
  exact ⟨rfl, t.within h3⟩
end Go.Proofs.YtjpdnabfpiengaaGreat

/- NegateVector on both sides. -/
namespace Go.Proofs.YtjpdnabfpiengaaGreat
open Go.RowKit
set_option maxRecDepth 100000
set_option linter.unusedVariables false

section
variable {ops : Array Oper} {Q : Exit → Act → World → Prop} {S : World → Prop}
variable {r : List (Nat × Bool)} {a : Act} {e : List (Nat × Value)} {w : World} {i d : Nat} {g : Option (Nat × Bool)}
theorem run_mkInt {x : Operand} {z : Int} (ho : opAt ops i = some (some d, .buildSlice 43 1 #[(0, x)], g)) (hd : Nat.blt d a.tmps.size = true) (hw : wantE ops a e g = some true) (hx : lookO a e x = .int .i64 z)
    (h : ∀ W n, W = w.alloc (.cells #[.int .i64 z] 3) → n = w.heap.size → S W ∧ RunE Tryz.prog ops Q S r a ((d, .slice (some ⟨n, 0, none⟩) 1 1) :: e) W) : RunE Tryz.prog ops Q S ((i, false) :: r) a e w :=
  run_build_int z ho hd hw hx (fun W hW => h W _ hW rfl)
end
/-- The vector of one zero. -/
def zroV : Vec := vecOf 2 (itF (fun _ => numI 0) 1)
theorem zro_small : Small 1 zroV := small_vecOf (by simp [itF_len]) (fun x hx => by obtain ⟨i, _, rfl⟩ := mem_itF hx; exact Nat.zero_le _)
theorem ints_one {n : Nat} {z : Int} {W : World} (h : NewB n 3 #[.int .i64 z] W) : IntsAt W.heap.size W (some ⟨n, 0, none⟩) 1 (fun _ => z) := fun i hi => by
  obtain rfl : i = 0 := by omega
  exact ⟨n, 0, rfl, (Array.getElem?_eq_some_iff.1 h.out).1, cellOf h.out rfl⟩
/-- What NegateVector answers. -/
noncomputable def ngV (v : Vec) : Vec := ariV (idxA ⟨#[45]⟩) zroV v
noncomputable def ngS (v : Vec) : ByteArray := ariS (idxA ⟨#[45]⟩) zroV v
set_option maxHeartbeats 4000000 in
theorem implNegate (d : Nat) (v : Vec) (val : Value) (lo hi : Nat) (w : World) (hv : VecAt lo hi w d v val) (hhi : hi ≤ w.heap.size) (hsm : Small d v) :
    Calls Tryz.prog 7 #[val] w (ResVS 1 (ngV v) (ngS v) w) := by
  have CN := Lib.hid (fun (W : World) (n : Nat) (h : NewB n 3 #[.int .i64 0] W) => (by have q := implNumVec (some ⟨n, 0, none⟩) 1 1 (fun _ => 0) W.heap.size W (ints_one h) (Nat.le_refl _) (by decide) (fun _ _ => by decide); exact q : Calls Tryz.prog 20 #[.slice (some ⟨n, 0, none⟩) 1 1] W (ResV 1 zroV W)))
  have CA := Lib.hid (fun (W : World) (y : Value) (h : VecAt 0 W.heap.size W 1 zroV y) (hb : Below w.heap.size w W) => (by have q := implArithmeticOf 1 d zroV v ⟨#[45]⟩ y val 0 W.heap.size W h (VecAt.wide (Nat.zero_le _) (Nat.le_trans hhi hb.size) _ _ _ (hv.below hb hhi)) (Nat.le_refl _) zro_small hsm; exact q : Calls Tryz.prog 19 #[.string ⟨#[45]⟩, y, val] W (ResVS 1 (ngV v) (ngS v) W)))
  obtain ⟨V, hV⟩ : ∃ V, ngV v = V := ⟨_, rfl⟩
  obtain ⟨sV, hsV⟩ : ∃ s, ngS v = s := ⟨_, rfl⟩
  rw [hV, hsV] at CA ⊢
  obtain ⟨kk, items, parts, names, cls, levels, code, env⟩ := v
  obtain ⟨d', ai, ci, ap, cp, an, cn, ac, cc, al, cl, ed, rfl, hI, hN, hC, hL, hP⟩ := vecAt_open hv
  clear hv hI hN hC hL hP hsm ed hV hsV
  obtain ⟨w1, hw1⟩ : ∃ W, (w.alloc (.cells #[.int .i64 kk, .slice ai items.length ci, .slice ap parts.length cp, .slice an names.length cn, .slice ac cls.length cc, .slice al levels.length cl, .int .i64 code, .int .i64 env] 31)).alloc (.cells #[.int .i64 0, .slice none 0 0, .slice none 0 0, .slice none 0 0, .slice none 0 0, .slice none 0 0, .int .i64 0, .int .i64 0] 31) = W := ⟨_, rfl⟩
  have hsz : (w.alloc (.cells #[.int .i64 kk, .slice ai items.length ci, .slice ap parts.length cp, .slice an names.length cn, .slice ac cls.length cc, .slice al levels.length cl, .int .i64 code, .int .i64 env] 31)).heap.size = w.heap.size + 1 := by simp
  have B1 := Lib.hid (show Below w.heap.size w w1 from hw1 ▸ below2 w _ _)
  have SW := Lib.hid (show w1.heap.size = w.heap.size + 2 by rw [← hw1]; simp)
  have KA := Lib.hid (show w1.heap[w.heap.size]? = some (.cells #[.int .i64 kk, .slice ai items.length ci, .slice ap parts.length cp, .slice an names.length cn, .slice ac cls.length cc, .slice al levels.length cl, .int .i64 code, .int .i64 env] 31 (0, 0)) from hw1 ▸ blk_old (blk_new w _ rfl))
  have KR := Lib.hid (show w1.heap[w.heap.size + 1]? = some (.cells #[.int .i64 0, .slice none 0 0, .slice none 0 0, .slice none 0 0, .slice none 0 0, .slice none 0 0, .int .i64 0, .int .i64 0] 31 (0, 0)) from hw1 ▸ blk_new _ _ hsz.symm)
  have EW := Lib.hid hw1
  clear hw1 hsz
  have H := Lib.hid (show HeldC w w1 ([(w.heap.size, 31, #[.int .i64 kk, .slice ai items.length ci, .slice ap parts.length cp, .slice an names.length cn, .slice ac cls.length cc, .slice al levels.length cl, .int .i64 code, .int .i64 env])]) from ⟨B1.out, fun q hq => by obtain rfl := List.mem_singleton.1 hq; exact KA.out⟩)
  go_enter Tryz.func7, Tryz.ntmps7
  go_upto_region 1 with (fail)
  rw [EW.out]
  refine run_region (ops := (opsOf Tryz.f7 1)) (S := fun w' => HeldC w w' ([(w.heap.size, 31, #[.int .i64 kk, .slice ai items.length ci, .slice ap parts.length cp, .slice an names.length cn, .slice ac cls.length cc, .slice al levels.length cl, .int .i64 code, .int .i64 env])])) [(2, true), (0, false), (1, false), (3, false), (4, true), (5, true), (6, false), (7, true)] (by kernel_rfl) (by kernel_rfl) (by kernel_rfl) (by kernel_rfl) (by kernel_rfl) (fun _ _ _ _ _ h => h) (heldC_drew H.out) ?_
  have H := Lib.hid (heldC_drew H.out)
  have NV := Lib.hid (⟨blk_drew KR.out⟩ : NewB (w.heap.size + 1) 31 #[.int .i64 0, .slice none 0 0, .slice none 0 0, .slice none 0 0, .slice none 0 0, .slice none 0 0, .int .i64 0, .int .i64 0] _)
  refine runC_vec (b := w.heap.size) (show opAt (opsOf Tryz.f7 1) 2 = some (some 6, .load 31 (.tmp 1), none) from by kernel_rfl) (by kernel_rfl) (by kernel_rfl) (by kernel_rfl) (List.Mem.head _) ?_
  refine run_mkInt (z := 0) (show opAt (opsOf Tryz.f7 1) 0 = some (some 4, .buildSlice 43 1 #[(0, (.const (.int .i64 0)))], none) from by kernel_rfl) (by kernel_rfl) (by kernel_rfl) (by kernel_rfl) (fun W0 n0 hW0 hn0 => ?_)
  subst hW0
  have KI := Lib.hid (⟨blk_new _ _ hn0⟩ : NewB n0 3 #[.int .i64 0] _)
  have NV := Lib.hid (NV.out.keep (below1 _ (.cells #[.int .i64 0] 3)))
  refine ⟨heldC_call H.out (below1 _ (.cells #[.int .i64 0] 3)), ?_⟩
  have H := Lib.hid (heldC_call H.out (below1 _ (.cells #[.int .i64 0] 3)))
  clear hn0
  refine run_call (args := [.slice (some ⟨n0, 0, none⟩) 1 1]) (show opAt (opsOf Tryz.f7 1) 1 = some (some 5, .call { callee := .value (.func 20), args := [(.tmp 4)].toArray, argTypes := [43].toArray }, none) from by kernel_rfl) (by kernel_rfl) (by kernel_rfl) (by kernel_rfl) (by kernel_rfl) ?_
  refine (CN.out _ _ KI.out).mono ?_
  rintro en rw1 ⟨y1, rfl, ho, hb⟩
  refine ⟨_, rfl, heldC_call H.out hb, ?_⟩
  have H := Lib.hid (heldC_call H.out hb)
  have NV := Lib.hid (NV.out.keep hb)
  have A1 := Lib.hid (ResV.vatH ho)
  clear ho hb KI
  refine run_call (args := [.string ⟨#[45]⟩, y1, .agg #[.int .i64 kk, .slice ai items.length ci, .slice ap parts.length cp, .slice an names.length cn, .slice ac cls.length cc, .slice al levels.length cl, .int .i64 code, .int .i64 env]]) (show opAt (opsOf Tryz.f7 1) 3 = some (some 7, .call { callee := .value (.func 19), args := [(.const (.string ⟨#[45]⟩)), (.tmp 5), (.tmp 6)].toArray, argTypes := [9, 31, 31].toArray }, none) from by kernel_rfl) (by kernel_rfl) (by kernel_rfl) (by kernel_rfl) (by kernel_rfl) ?_
  refine (CA.out _ _ A1.out.out H.out.1).mono ?_
  rintro en rw2 ⟨yu, rfl, ho, hb⟩
  refine ⟨_, rfl, heldC_call H.out hb, ?_⟩
  obtain ⟨yuk, yua1, yun1, yum1, yua2, yun2, yum2, yua3, yun3, yum3, yua4, yun4, yum4, yua5, yun5, yum5, yuc, yue, rfl⟩ := ho.agg
  have UB := Lib.hid (Array.getElem?_eq_some_iff.1 NV.out.out).1
  have LU := Lib.hid H.out.1.size
  have OU := Lib.hid (⟨ho, Nat.le_refl _⟩ : OwnH 1 V _ _ _ _)
  have H := Lib.hid (heldC_call H.out hb)
  have NV := Lib.hid (NV.out.keep hb)
  clear ho hb A1
  refine run_extract (vs := #[.agg #[.int .i64 yuk, .slice yua1 yun1 yum1, .slice yua2 yun2 yum2, .slice yua3 yun3 yum3, .slice yua4 yun4 yum4, .slice yua5 yun5 yum5, .int .i64 yuc, .int .i64 yue], .string sV]) (v := .agg #[.int .i64 yuk, .slice yua1 yun1 yum1, .slice yua2 yun2 yum2, .slice yua3 yun3 yum3, .slice yua4 yun4 yum4, .slice yua5 yun5 yum5, .int .i64 yuc, .int .i64 yue]) (show opAt (opsOf Tryz.f7 1) 4 = some (some 8, .extract (.tmp 7) 0, none) from by kernel_rfl) (by kernel_rfl) (by kernel_rfl) (by kernel_rfl) (by rfl) ?_
  refine run_extract (vs := #[.agg #[.int .i64 yuk, .slice yua1 yun1 yum1, .slice yua2 yun2 yum2, .slice yua3 yun3 yum3, .slice yua4 yun4 yum4, .slice yua5 yun5 yum5, .int .i64 yuc, .int .i64 yue], .string sV]) (v := .string sV) (show opAt (opsOf Tryz.f7 1) 5 = some (some 9, .extract (.tmp 7) 1, none) from by kernel_rfl) (by kernel_rfl) (by kernel_rfl) (by kernel_rfl) (by rfl) ?_
  refine run_store (w' := World.setRow _ (w.heap.size + 1) #[.int .i64 yuk, .slice yua1 yun1 yum1, .slice yua2 yun2 yum2, .slice yua3 yun3 yum3, .slice yua4 yun4 yum4, .slice yua5 yun5 yum5, .int .i64 yuc, .int .i64 yue]) (show opAt (opsOf Tryz.f7 1) 6 = some (none, .store 31 (.tmp 2) (.tmp 8), none) from by kernel_rfl) (by kernel_rfl) (by kernel_rfl) (by kernel_rfl) (store_vec8 NV.out.out (by simp [Value.oneCell'])) ⟨below_row H.out.1 (Nat.le_succ _) _, fun q hq => row_old (H.out.2 q hq) (by obtain rfl := List.mem_singleton.1 hq; simp only; omega)⟩ ?_
  refine run_asg (v := .string sV) (show opAt (opsOf Tryz.f7 1) 7 = some (some 3, .assign (.tmp 9), none) from by kernel_rfl) (by kernel_rfl) (by kernel_rfl) (by kernel_rfl) ?_
  refine run_done ?_
  simp only [putAll, Act.put, List.setIfInBounds_toArray, List.set_cons_zero, List.set_cons_succ]
  go_wp2
  exact vec_ret0S rfl rfl rfl rfl (row_set NV.out.out) ⟨_, rfl, (OU.out.own.rowO (.inl (by have := UB.out; omega))).wide (by have := LU.out; omega) (row_size _ _ _), below_row H.out.1 (Nat.le_succ _) _⟩
set_option maxHeartbeats 4000000 in
theorem specNegate (d : Nat) (v : Vec) (val : Value) (lo hi : Nat) (w : World) (hv : VecAt lo hi w d v val) (hhi : hi ≤ w.heap.size) (hsm : Small d v) :
    Calls Tryz.prog 5 #[val] w (ResVS 1 (ngV v) (ngS v) w) := by
  have CN := Lib.hid (fun (W : World) (n : Nat) (h : NewB n 3 #[.int .i64 0] W) => (by have q := specNumVec (some ⟨n, 0, none⟩) 1 1 (fun _ => 0) W.heap.size W (ints_one h) (Nat.le_refl _) (by decide) (fun _ _ => by decide); exact q : Calls Tryz.prog 15 #[.slice (some ⟨n, 0, none⟩) 1 1] W (ResV 1 zroV W)))
  have CA := Lib.hid (fun (W : World) (y : Value) (h : VecAt 0 W.heap.size W 1 zroV y) (hb : Below w.heap.size w W) => (by have q := specArithmeticOf 1 d zroV v ⟨#[45]⟩ y val 0 W.heap.size W h (VecAt.wide (Nat.zero_le _) (Nat.le_trans hhi hb.size) _ _ _ (hv.below hb hhi)) (Nat.le_refl _) zro_small hsm; exact q : Calls Tryz.prog 14 #[.string ⟨#[45]⟩, y, val] W (ResVS 1 (ngV v) (ngS v) W)))
  obtain ⟨V, hV⟩ : ∃ V, ngV v = V := ⟨_, rfl⟩
  obtain ⟨sV, hsV⟩ : ∃ s, ngS v = s := ⟨_, rfl⟩
  rw [hV, hsV] at CA ⊢
  obtain ⟨kk, items, parts, names, cls, levels, code, env⟩ := v
  obtain ⟨d', ai, ci, ap, cp, an, cn, ac, cc, al, cl, ed, rfl, hI, hN, hC, hL, hP⟩ := vecAt_open hv
  clear hv hI hN hC hL hP hsm ed hV hsV
  obtain ⟨w1, hw1⟩ : ∃ W, (w.alloc (.cells #[.int .i64 kk, .slice ai items.length ci, .slice ap parts.length cp, .slice an names.length cn, .slice ac cls.length cc, .slice al levels.length cl, .int .i64 code, .int .i64 env] 31)).alloc (.cells #[.int .i64 0, .slice none 0 0, .slice none 0 0, .slice none 0 0, .slice none 0 0, .slice none 0 0, .int .i64 0, .int .i64 0] 31) = W := ⟨_, rfl⟩
  have hsz : (w.alloc (.cells #[.int .i64 kk, .slice ai items.length ci, .slice ap parts.length cp, .slice an names.length cn, .slice ac cls.length cc, .slice al levels.length cl, .int .i64 code, .int .i64 env] 31)).heap.size = w.heap.size + 1 := by simp
  have B1 := Lib.hid (show Below w.heap.size w w1 from hw1 ▸ below2 w _ _)
  have SW := Lib.hid (show w1.heap.size = w.heap.size + 2 by rw [← hw1]; simp)
  have KA := Lib.hid (show w1.heap[w.heap.size]? = some (.cells #[.int .i64 kk, .slice ai items.length ci, .slice ap parts.length cp, .slice an names.length cn, .slice ac cls.length cc, .slice al levels.length cl, .int .i64 code, .int .i64 env] 31 (0, 0)) from hw1 ▸ blk_old (blk_new w _ rfl))
  have KR := Lib.hid (show w1.heap[w.heap.size + 1]? = some (.cells #[.int .i64 0, .slice none 0 0, .slice none 0 0, .slice none 0 0, .slice none 0 0, .slice none 0 0, .int .i64 0, .int .i64 0] 31 (0, 0)) from hw1 ▸ blk_new _ _ hsz.symm)
  have EW := Lib.hid hw1
  clear hw1 hsz
  have CA := Lib.hid (fun W y h hb => CA.out W y h (below_then B1.out hb))
  have H := Lib.hid (show HeldC w1 w1 ([(w.heap.size, 31, #[.int .i64 kk, .slice ai items.length ci, .slice ap parts.length cp, .slice an names.length cn, .slice ac cls.length cc, .slice al levels.length cl, .int .i64 code, .int .i64 env])]) from ⟨Below.refl _ _, fun q hq => by obtain rfl := List.mem_singleton.1 hq; exact KA.out⟩)
  go_enter Tryz.func5, Tryz.ntmps5
  go_upto_region 1 with (fail)
  rw [EW.out]
  go_cut [4, 5] from 4 to 12 (fun pu su wx => ∃ (gu : Nat) (C : Array Value), pu = .pointer (some ⟨gu, 0, none⟩) ∧ su = .string sV ∧ MadeU V w1 wx gu C)
  case first =>
    refine run_regionT (ops := (opsOf Tryz.f5 1)) (S := fun w' => HeldC w1 w' ([(w.heap.size, 31, #[.int .i64 kk, .slice ai items.length ci, .slice ap parts.length cp, .slice an names.length cn, .slice ac cls.length cc, .slice al levels.length cl, .int .i64 code, .int .i64 env])])) (.fork [(2, true)] 0 (.fork [] 1 (.fork [] 3 (.leaf [(4, true), (5, true), (6, true), (7, false), (8, false), (9, true)]) 7 (.leaf [(3, false), (4, true), (5, true), (6, true), (8, false), (9, true)])) 7 (.leaf [(1, false), (3, false), (4, true), (5, true), (6, true), (8, false), (9, true)])) 7 (.leaf [(0, false), (1, false), (3, false), (4, true), (5, true), (6, true), (8, false), (9, true)])) (by kernel_rfl) (by kernel_rfl) (by kernel_rfl) (by kernel_rfl) (by kernel_rfl) (fun _ _ _ _ _ h => h) (heldC_drew H.out) ?_
    have H := Lib.hid (heldC_drew H.out)
    refine runC_vec (b := w.heap.size) (show opAt (opsOf Tryz.f5 1) 2 = some (some 9, .load 31 (.tmp 1), none) from by kernel_rfl) (by kernel_rfl) (by kernel_rfl) (by kernel_rfl) (List.Mem.head _) ?_
    refine run_fork H.out (by kernel_rfl) (by kernel_rfl) ?_ ?_
    · refine run_mkInt (z := 0) (show opAt (opsOf Tryz.f5 1) 0 = some (some 7, .buildSlice 43 1 #[(0, (.const (.int .i64 0)))], none) from by kernel_rfl) (by kernel_rfl) (by kernel_rfl) (by kernel_rfl) (fun W0 n0 hW0 hn0 => ?_)
      subst hW0
      have KI := Lib.hid (⟨blk_new _ _ hn0⟩ : NewB n0 3 #[.int .i64 0] _)
      refine ⟨heldC_call H.out (below1 _ (.cells #[.int .i64 0] 3)), ?_⟩
      have H := Lib.hid (heldC_call H.out (below1 _ (.cells #[.int .i64 0] 3)))
      clear hn0
      refine run_fork H.out (by kernel_rfl) (by kernel_rfl) ?_ ?_
      · refine run_call (args := [.slice (some ⟨n0, 0, none⟩) 1 1]) (show opAt (opsOf Tryz.f5 1) 1 = some (some 8, .call { callee := .value (.func 15), args := [(.tmp 7)].toArray, argTypes := [43].toArray }, none) from by kernel_rfl) (by kernel_rfl) (by kernel_rfl) (by kernel_rfl) (by kernel_rfl) ?_
        refine (CN.out _ _ KI.out).mono ?_
        rintro en rw1 ⟨y1, rfl, ho, hb⟩
        refine ⟨_, rfl, heldC_call H.out hb, ?_⟩
        have H := Lib.hid (heldC_call H.out hb)
        have A1 := Lib.hid (ResV.vatH ho)
        clear ho hb KI
        refine run_fork H.out (by kernel_rfl) (by kernel_rfl) ?_ ?_
        · refine run_call (args := [.string ⟨#[45]⟩, y1, .agg #[.int .i64 kk, .slice ai items.length ci, .slice ap parts.length cp, .slice an names.length cn, .slice ac cls.length cc, .slice al levels.length cl, .int .i64 code, .int .i64 env]]) (show opAt (opsOf Tryz.f5 1) 3 = some (some 10, .call { callee := .value (.func 14), args := [(.const (.string ⟨#[45]⟩)), (.tmp 8), (.tmp 9)].toArray, argTypes := [9, 31, 31].toArray }, none) from by kernel_rfl) (by kernel_rfl) (by kernel_rfl) (by kernel_rfl) (by kernel_rfl) ?_
          refine (CA.out _ _ A1.out.out H.out.1).mono ?_
          rintro en rw2 ⟨yu, rfl, ho, hb⟩
          refine ⟨_, rfl, heldC_call H.out hb, ?_⟩
          obtain ⟨yuk, yua1, yun1, yum1, yua2, yun2, yum2, yua3, yun3, yum3, yua4, yun4, yum4, yua5, yun5, yum5, yuc, yue, rfl⟩ := ho.agg
          have LU := Lib.hid H.out.1.size
          have OU := Lib.hid (⟨ho, Nat.le_refl _⟩ : OwnH 1 V _ _ _ _)
          have H := Lib.hid (heldC_call H.out hb)
          clear ho hb A1
          refine run_mov (v := .tuple #[.agg #[.int .i64 yuk, .slice yua1 yun1 yum1, .slice yua2 yun2 yum2, .slice yua3 yun3 yum3, .slice yua4 yun4 yum4, .slice yua5 yun5 yum5, .int .i64 yuc, .int .i64 yue], .string sV]) (show opAt (opsOf Tryz.f5 1) 4 = some (some 6, .move (.tmp 10), none) from by kernel_rfl) (by kernel_rfl) (by kernel_rfl) (by kernel_rfl) ?_
          refine run_extract (vs := #[.agg #[.int .i64 yuk, .slice yua1 yun1 yum1, .slice yua2 yun2 yum2, .slice yua3 yun3 yum3, .slice yua4 yun4 yum4, .slice yua5 yun5 yum5, .int .i64 yuc, .int .i64 yue], .string sV]) (v := .agg #[.int .i64 yuk, .slice yua1 yun1 yum1, .slice yua2 yun2 yum2, .slice yua3 yun3 yum3, .slice yua4 yun4 yum4, .slice yua5 yun5 yum5, .int .i64 yuc, .int .i64 yue]) (show opAt (opsOf Tryz.f5 1) 5 = some (some 11, .extract (.tmp 6) 0, none) from by kernel_rfl) (by kernel_rfl) (by kernel_rfl) (by kernel_rfl) (by rfl) ?_
          refine run_extract (vs := #[.agg #[.int .i64 yuk, .slice yua1 yun1 yum1, .slice yua2 yun2 yum2, .slice yua3 yun3 yum3, .slice yua4 yun4 yum4, .slice yua5 yun5 yum5, .int .i64 yuc, .int .i64 yue], .string sV]) (v := .string sV) (show opAt (opsOf Tryz.f5 1) 6 = some (some 12, .extract (.tmp 6) 1, none) from by kernel_rfl) (by kernel_rfl) (by kernel_rfl) (by kernel_rfl) (by rfl) ?_
          have OUH := Lib.hid OU.out.hh
          refine run_new (C := #[.int .i64 0, .slice none 0 0, .slice none 0 0, .slice none 0 0, .slice none 0 0, .slice none 0 0, .int .i64 0, .int .i64 0]) (show opAt (opsOf Tryz.f5 1) 7 = some (some 4, .alloc 31, none) from by kernel_rfl) (by kernel_rfl) (by kernel_rfl) new_vec (fun W7 n7 hW7 hn7 => ?_)
          subst hW7
          have NV := Lib.hid (⟨blk_new _ _ hn7⟩ : NewB n7 31 #[.int .i64 0, .slice none 0 0, .slice none 0 0, .slice none 0 0, .slice none 0 0, .slice none 0 0, .int .i64 0, .int .i64 0] _)
          have GV := Lib.hid (by rw [hn7]; exact H.out.1.size : w1.heap.size ≤ n7)
          have FV := Lib.hid (by rw [hn7]; exact (Array.getElem?_eq_some_iff.1 (heldC_at H.out (List.Mem.head _))).1 : w.heap.size < n7)
          have OU := Lib.hid (OU.out.keep (below1 _ (.cells #[.int .i64 0, .slice none 0 0, .slice none 0 0, .slice none 0 0, .slice none 0 0, .slice none 0 0, .int .i64 0, .int .i64 0] 31)))
          have UN := Lib.hid (by rw [hn7]; exact OUH.out : _ ≤ n7)
          refine ⟨heldC_call H.out (below1 _ (.cells #[.int .i64 0, .slice none 0 0, .slice none 0 0, .slice none 0 0, .slice none 0 0, .slice none 0 0, .int .i64 0, .int .i64 0] 31)), ?_⟩
          have H := Lib.hid (heldC_call H.out (below1 _ (.cells #[.int .i64 0, .slice none 0 0, .slice none 0 0, .slice none 0 0, .slice none 0 0, .slice none 0 0, .int .i64 0, .int .i64 0] 31)))
          clear hn7
          refine run_store (w' := World.setRow _ n7 #[.int .i64 yuk, .slice yua1 yun1 yum1, .slice yua2 yun2 yum2, .slice yua3 yun3 yum3, .slice yua4 yun4 yum4, .slice yua5 yun5 yum5, .int .i64 yuc, .int .i64 yue]) (show opAt (opsOf Tryz.f5 1) 8 = some (none, .store 31 (.tmp 4) (.tmp 11), none) from by kernel_rfl) (by kernel_rfl) (by kernel_rfl) (by kernel_rfl) (store_vec8 NV.out.out (by simp [Value.oneCell'])) ⟨below_row H.out.1 GV.out _, fun q hq => row_old (H.out.2 q hq) (by obtain rfl := List.mem_singleton.1 hq; have := FV.out; simp only; omega)⟩ ?_
          refine run_asg (v := .string sV) (show opAt (opsOf Tryz.f5 1) 9 = some (some 5, .assign (.tmp 12), none) from by kernel_rfl) (by kernel_rfl) (by kernel_rfl) (by kernel_rfl) ?_
          refine run_done ?_
          simp only [putAll, Act.put, List.setIfInBounds_toArray, List.set_cons_zero, List.set_cons_succ]
          go_wp2_with fail
          go_meet
          exact ⟨_, _, rfl, rfl, ⟨row_set NV.out.out, (OU.out.own.rowO (.inr UN.out)).wide LU.out (Nat.le_trans OU.out.hh (row_size _ _ _)), below_row H.out.1 GV.out _, GV.out⟩⟩
        · refine run_new (C := #[.int .i64 0, .slice none 0 0, .slice none 0 0, .slice none 0 0, .slice none 0 0, .slice none 0 0, .int .i64 0, .int .i64 0]) (show opAt (opsOf Tryz.f5 1) 7 = some (some 4, .alloc 31, none) from by kernel_rfl) (by kernel_rfl) (by kernel_rfl) new_vec (fun W7 n7 hW7 hn7 => ?_)
          subst hW7
          have NV := Lib.hid (⟨blk_new _ _ hn7⟩ : NewB n7 31 #[.int .i64 0, .slice none 0 0, .slice none 0 0, .slice none 0 0, .slice none 0 0, .slice none 0 0, .int .i64 0, .int .i64 0] _)
          have GV := Lib.hid (by rw [hn7]; exact H.out.1.size : w1.heap.size ≤ n7)
          have FV := Lib.hid (by rw [hn7]; exact (Array.getElem?_eq_some_iff.1 (heldC_at H.out (List.Mem.head _))).1 : w.heap.size < n7)
          have A1 := Lib.hid (A1.out.keep (below1 _ (.cells #[.int .i64 0, .slice none 0 0, .slice none 0 0, .slice none 0 0, .slice none 0 0, .slice none 0 0, .int .i64 0, .int .i64 0] 31)))
          refine ⟨heldC_call H.out (below1 _ (.cells #[.int .i64 0, .slice none 0 0, .slice none 0 0, .slice none 0 0, .slice none 0 0, .slice none 0 0, .int .i64 0, .int .i64 0] 31)), ?_⟩
          have H := Lib.hid (heldC_call H.out (below1 _ (.cells #[.int .i64 0, .slice none 0 0, .slice none 0 0, .slice none 0 0, .slice none 0 0, .slice none 0 0, .int .i64 0, .int .i64 0] 31)))
          clear hn7
          refine run_call (args := [.string ⟨#[45]⟩, y1, .agg #[.int .i64 kk, .slice ai items.length ci, .slice ap parts.length cp, .slice an names.length cn, .slice ac cls.length cc, .slice al levels.length cl, .int .i64 code, .int .i64 env]]) (show opAt (opsOf Tryz.f5 1) 3 = some (some 10, .call { callee := .value (.func 14), args := [(.const (.string ⟨#[45]⟩)), (.tmp 8), (.tmp 9)].toArray, argTypes := [9, 31, 31].toArray }, none) from by kernel_rfl) (by kernel_rfl) (by kernel_rfl) (by kernel_rfl) (by kernel_rfl) ?_
          refine (CA.out _ _ A1.out.out H.out.1).mono ?_
          rintro en rw2 ⟨yu, rfl, ho, hb⟩
          refine ⟨_, rfl, heldC_call H.out hb, ?_⟩
          obtain ⟨yuk, yua1, yun1, yum1, yua2, yun2, yum2, yua3, yun3, yum3, yua4, yun4, yum4, yua5, yun5, yum5, yuc, yue, rfl⟩ := ho.agg
          have UB := Lib.hid (Array.getElem?_eq_some_iff.1 NV.out.out).1
          have LU := Lib.hid H.out.1.size
          have OU := Lib.hid (⟨ho, Nat.le_refl _⟩ : OwnH 1 V _ _ _ _)
          have H := Lib.hid (heldC_call H.out hb)
          have NV := Lib.hid (NV.out.keep hb)
          clear ho hb A1
          refine run_mov (v := .tuple #[.agg #[.int .i64 yuk, .slice yua1 yun1 yum1, .slice yua2 yun2 yum2, .slice yua3 yun3 yum3, .slice yua4 yun4 yum4, .slice yua5 yun5 yum5, .int .i64 yuc, .int .i64 yue], .string sV]) (show opAt (opsOf Tryz.f5 1) 4 = some (some 6, .move (.tmp 10), none) from by kernel_rfl) (by kernel_rfl) (by kernel_rfl) (by kernel_rfl) ?_
          refine run_extract (vs := #[.agg #[.int .i64 yuk, .slice yua1 yun1 yum1, .slice yua2 yun2 yum2, .slice yua3 yun3 yum3, .slice yua4 yun4 yum4, .slice yua5 yun5 yum5, .int .i64 yuc, .int .i64 yue], .string sV]) (v := .agg #[.int .i64 yuk, .slice yua1 yun1 yum1, .slice yua2 yun2 yum2, .slice yua3 yun3 yum3, .slice yua4 yun4 yum4, .slice yua5 yun5 yum5, .int .i64 yuc, .int .i64 yue]) (show opAt (opsOf Tryz.f5 1) 5 = some (some 11, .extract (.tmp 6) 0, none) from by kernel_rfl) (by kernel_rfl) (by kernel_rfl) (by kernel_rfl) (by rfl) ?_
          refine run_extract (vs := #[.agg #[.int .i64 yuk, .slice yua1 yun1 yum1, .slice yua2 yun2 yum2, .slice yua3 yun3 yum3, .slice yua4 yun4 yum4, .slice yua5 yun5 yum5, .int .i64 yuc, .int .i64 yue], .string sV]) (v := .string sV) (show opAt (opsOf Tryz.f5 1) 6 = some (some 12, .extract (.tmp 6) 1, none) from by kernel_rfl) (by kernel_rfl) (by kernel_rfl) (by kernel_rfl) (by rfl) ?_
          refine run_store (w' := World.setRow _ n7 #[.int .i64 yuk, .slice yua1 yun1 yum1, .slice yua2 yun2 yum2, .slice yua3 yun3 yum3, .slice yua4 yun4 yum4, .slice yua5 yun5 yum5, .int .i64 yuc, .int .i64 yue]) (show opAt (opsOf Tryz.f5 1) 8 = some (none, .store 31 (.tmp 4) (.tmp 11), none) from by kernel_rfl) (by kernel_rfl) (by kernel_rfl) (by kernel_rfl) (store_vec8 NV.out.out (by simp [Value.oneCell'])) ⟨below_row H.out.1 GV.out _, fun q hq => row_old (H.out.2 q hq) (by obtain rfl := List.mem_singleton.1 hq; have := FV.out; simp only; omega)⟩ ?_
          refine run_asg (v := .string sV) (show opAt (opsOf Tryz.f5 1) 9 = some (some 5, .assign (.tmp 12), none) from by kernel_rfl) (by kernel_rfl) (by kernel_rfl) (by kernel_rfl) ?_
          refine run_done ?_
          simp only [putAll, Act.put, List.setIfInBounds_toArray, List.set_cons_zero, List.set_cons_succ]
          go_wp2_with fail
          go_meet
          exact ⟨_, _, rfl, rfl, ⟨row_set NV.out.out, (OU.out.own.rowO (.inl UB.out)).wide LU.out (Nat.le_trans OU.out.hh (row_size _ _ _)), below_row H.out.1 GV.out _, GV.out⟩⟩
      · refine run_new (C := #[.int .i64 0, .slice none 0 0, .slice none 0 0, .slice none 0 0, .slice none 0 0, .slice none 0 0, .int .i64 0, .int .i64 0]) (show opAt (opsOf Tryz.f5 1) 7 = some (some 4, .alloc 31, none) from by kernel_rfl) (by kernel_rfl) (by kernel_rfl) new_vec (fun W7 n7 hW7 hn7 => ?_)
        subst hW7
        have NV := Lib.hid (⟨blk_new _ _ hn7⟩ : NewB n7 31 #[.int .i64 0, .slice none 0 0, .slice none 0 0, .slice none 0 0, .slice none 0 0, .slice none 0 0, .int .i64 0, .int .i64 0] _)
        have GV := Lib.hid (by rw [hn7]; exact H.out.1.size : w1.heap.size ≤ n7)
        have FV := Lib.hid (by rw [hn7]; exact (Array.getElem?_eq_some_iff.1 (heldC_at H.out (List.Mem.head _))).1 : w.heap.size < n7)
        have KI := Lib.hid (KI.out.keep (below1 _ (.cells #[.int .i64 0, .slice none 0 0, .slice none 0 0, .slice none 0 0, .slice none 0 0, .slice none 0 0, .int .i64 0, .int .i64 0] 31)))
        refine ⟨heldC_call H.out (below1 _ (.cells #[.int .i64 0, .slice none 0 0, .slice none 0 0, .slice none 0 0, .slice none 0 0, .slice none 0 0, .int .i64 0, .int .i64 0] 31)), ?_⟩
        have H := Lib.hid (heldC_call H.out (below1 _ (.cells #[.int .i64 0, .slice none 0 0, .slice none 0 0, .slice none 0 0, .slice none 0 0, .slice none 0 0, .int .i64 0, .int .i64 0] 31)))
        clear hn7
        refine run_call (args := [.slice (some ⟨n0, 0, none⟩) 1 1]) (show opAt (opsOf Tryz.f5 1) 1 = some (some 8, .call { callee := .value (.func 15), args := [(.tmp 7)].toArray, argTypes := [43].toArray }, none) from by kernel_rfl) (by kernel_rfl) (by kernel_rfl) (by kernel_rfl) (by kernel_rfl) ?_
        refine (CN.out _ _ KI.out).mono ?_
        rintro en rw1 ⟨y1, rfl, ho, hb⟩
        refine ⟨_, rfl, heldC_call H.out hb, ?_⟩
        have H := Lib.hid (heldC_call H.out hb)
        have NV := Lib.hid (NV.out.keep hb)
        have A1 := Lib.hid (ResV.vatH ho)
        clear ho hb KI
        refine run_call (args := [.string ⟨#[45]⟩, y1, .agg #[.int .i64 kk, .slice ai items.length ci, .slice ap parts.length cp, .slice an names.length cn, .slice ac cls.length cc, .slice al levels.length cl, .int .i64 code, .int .i64 env]]) (show opAt (opsOf Tryz.f5 1) 3 = some (some 10, .call { callee := .value (.func 14), args := [(.const (.string ⟨#[45]⟩)), (.tmp 8), (.tmp 9)].toArray, argTypes := [9, 31, 31].toArray }, none) from by kernel_rfl) (by kernel_rfl) (by kernel_rfl) (by kernel_rfl) (by kernel_rfl) ?_
        refine (CA.out _ _ A1.out.out H.out.1).mono ?_
        rintro en rw2 ⟨yu, rfl, ho, hb⟩
        refine ⟨_, rfl, heldC_call H.out hb, ?_⟩
        obtain ⟨yuk, yua1, yun1, yum1, yua2, yun2, yum2, yua3, yun3, yum3, yua4, yun4, yum4, yua5, yun5, yum5, yuc, yue, rfl⟩ := ho.agg
        have UB := Lib.hid (Array.getElem?_eq_some_iff.1 NV.out.out).1
        have LU := Lib.hid H.out.1.size
        have OU := Lib.hid (⟨ho, Nat.le_refl _⟩ : OwnH 1 V _ _ _ _)
        have H := Lib.hid (heldC_call H.out hb)
        have NV := Lib.hid (NV.out.keep hb)
        clear ho hb A1
        refine run_mov (v := .tuple #[.agg #[.int .i64 yuk, .slice yua1 yun1 yum1, .slice yua2 yun2 yum2, .slice yua3 yun3 yum3, .slice yua4 yun4 yum4, .slice yua5 yun5 yum5, .int .i64 yuc, .int .i64 yue], .string sV]) (show opAt (opsOf Tryz.f5 1) 4 = some (some 6, .move (.tmp 10), none) from by kernel_rfl) (by kernel_rfl) (by kernel_rfl) (by kernel_rfl) ?_
        refine run_extract (vs := #[.agg #[.int .i64 yuk, .slice yua1 yun1 yum1, .slice yua2 yun2 yum2, .slice yua3 yun3 yum3, .slice yua4 yun4 yum4, .slice yua5 yun5 yum5, .int .i64 yuc, .int .i64 yue], .string sV]) (v := .agg #[.int .i64 yuk, .slice yua1 yun1 yum1, .slice yua2 yun2 yum2, .slice yua3 yun3 yum3, .slice yua4 yun4 yum4, .slice yua5 yun5 yum5, .int .i64 yuc, .int .i64 yue]) (show opAt (opsOf Tryz.f5 1) 5 = some (some 11, .extract (.tmp 6) 0, none) from by kernel_rfl) (by kernel_rfl) (by kernel_rfl) (by kernel_rfl) (by rfl) ?_
        refine run_extract (vs := #[.agg #[.int .i64 yuk, .slice yua1 yun1 yum1, .slice yua2 yun2 yum2, .slice yua3 yun3 yum3, .slice yua4 yun4 yum4, .slice yua5 yun5 yum5, .int .i64 yuc, .int .i64 yue], .string sV]) (v := .string sV) (show opAt (opsOf Tryz.f5 1) 6 = some (some 12, .extract (.tmp 6) 1, none) from by kernel_rfl) (by kernel_rfl) (by kernel_rfl) (by kernel_rfl) (by rfl) ?_
        refine run_store (w' := World.setRow _ n7 #[.int .i64 yuk, .slice yua1 yun1 yum1, .slice yua2 yun2 yum2, .slice yua3 yun3 yum3, .slice yua4 yun4 yum4, .slice yua5 yun5 yum5, .int .i64 yuc, .int .i64 yue]) (show opAt (opsOf Tryz.f5 1) 8 = some (none, .store 31 (.tmp 4) (.tmp 11), none) from by kernel_rfl) (by kernel_rfl) (by kernel_rfl) (by kernel_rfl) (store_vec8 NV.out.out (by simp [Value.oneCell'])) ⟨below_row H.out.1 GV.out _, fun q hq => row_old (H.out.2 q hq) (by obtain rfl := List.mem_singleton.1 hq; have := FV.out; simp only; omega)⟩ ?_
        refine run_asg (v := .string sV) (show opAt (opsOf Tryz.f5 1) 9 = some (some 5, .assign (.tmp 12), none) from by kernel_rfl) (by kernel_rfl) (by kernel_rfl) (by kernel_rfl) ?_
        refine run_done ?_
        simp only [putAll, Act.put, List.setIfInBounds_toArray, List.set_cons_zero, List.set_cons_succ]
        go_wp2_with fail
        go_meet
        exact ⟨_, _, rfl, rfl, ⟨row_set NV.out.out, (OU.out.own.rowO (.inl UB.out)).wide LU.out (Nat.le_trans OU.out.hh (row_size _ _ _)), below_row H.out.1 GV.out _, GV.out⟩⟩
    · refine run_new (C := #[.int .i64 0, .slice none 0 0, .slice none 0 0, .slice none 0 0, .slice none 0 0, .slice none 0 0, .int .i64 0, .int .i64 0]) (show opAt (opsOf Tryz.f5 1) 7 = some (some 4, .alloc 31, none) from by kernel_rfl) (by kernel_rfl) (by kernel_rfl) new_vec (fun W7 n7 hW7 hn7 => ?_)
      subst hW7
      have NV := Lib.hid (⟨blk_new _ _ hn7⟩ : NewB n7 31 #[.int .i64 0, .slice none 0 0, .slice none 0 0, .slice none 0 0, .slice none 0 0, .slice none 0 0, .int .i64 0, .int .i64 0] _)
      have GV := Lib.hid (by rw [hn7]; exact H.out.1.size : w1.heap.size ≤ n7)
      have FV := Lib.hid (by rw [hn7]; exact (Array.getElem?_eq_some_iff.1 (heldC_at H.out (List.Mem.head _))).1 : w.heap.size < n7)
      refine ⟨heldC_call H.out (below1 _ (.cells #[.int .i64 0, .slice none 0 0, .slice none 0 0, .slice none 0 0, .slice none 0 0, .slice none 0 0, .int .i64 0, .int .i64 0] 31)), ?_⟩
      have H := Lib.hid (heldC_call H.out (below1 _ (.cells #[.int .i64 0, .slice none 0 0, .slice none 0 0, .slice none 0 0, .slice none 0 0, .slice none 0 0, .int .i64 0, .int .i64 0] 31)))
      clear hn7
      refine run_mkInt (z := 0) (show opAt (opsOf Tryz.f5 1) 0 = some (some 7, .buildSlice 43 1 #[(0, (.const (.int .i64 0)))], none) from by kernel_rfl) (by kernel_rfl) (by kernel_rfl) (by kernel_rfl) (fun W0 n0 hW0 hn0 => ?_)
      subst hW0
      have KI := Lib.hid (⟨blk_new _ _ hn0⟩ : NewB n0 3 #[.int .i64 0] _)
      have NV := Lib.hid (NV.out.keep (below1 _ (.cells #[.int .i64 0] 3)))
      refine ⟨heldC_call H.out (below1 _ (.cells #[.int .i64 0] 3)), ?_⟩
      have H := Lib.hid (heldC_call H.out (below1 _ (.cells #[.int .i64 0] 3)))
      clear hn0
      refine run_call (args := [.slice (some ⟨n0, 0, none⟩) 1 1]) (show opAt (opsOf Tryz.f5 1) 1 = some (some 8, .call { callee := .value (.func 15), args := [(.tmp 7)].toArray, argTypes := [43].toArray }, none) from by kernel_rfl) (by kernel_rfl) (by kernel_rfl) (by kernel_rfl) (by kernel_rfl) ?_
      refine (CN.out _ _ KI.out).mono ?_
      rintro en rw1 ⟨y1, rfl, ho, hb⟩
      refine ⟨_, rfl, heldC_call H.out hb, ?_⟩
      have H := Lib.hid (heldC_call H.out hb)
      have NV := Lib.hid (NV.out.keep hb)
      have A1 := Lib.hid (ResV.vatH ho)
      clear ho hb KI
      refine run_call (args := [.string ⟨#[45]⟩, y1, .agg #[.int .i64 kk, .slice ai items.length ci, .slice ap parts.length cp, .slice an names.length cn, .slice ac cls.length cc, .slice al levels.length cl, .int .i64 code, .int .i64 env]]) (show opAt (opsOf Tryz.f5 1) 3 = some (some 10, .call { callee := .value (.func 14), args := [(.const (.string ⟨#[45]⟩)), (.tmp 8), (.tmp 9)].toArray, argTypes := [9, 31, 31].toArray }, none) from by kernel_rfl) (by kernel_rfl) (by kernel_rfl) (by kernel_rfl) (by kernel_rfl) ?_
      refine (CA.out _ _ A1.out.out H.out.1).mono ?_
      rintro en rw2 ⟨yu, rfl, ho, hb⟩
      refine ⟨_, rfl, heldC_call H.out hb, ?_⟩
      obtain ⟨yuk, yua1, yun1, yum1, yua2, yun2, yum2, yua3, yun3, yum3, yua4, yun4, yum4, yua5, yun5, yum5, yuc, yue, rfl⟩ := ho.agg
      have UB := Lib.hid (Array.getElem?_eq_some_iff.1 NV.out.out).1
      have LU := Lib.hid H.out.1.size
      have OU := Lib.hid (⟨ho, Nat.le_refl _⟩ : OwnH 1 V _ _ _ _)
      have H := Lib.hid (heldC_call H.out hb)
      have NV := Lib.hid (NV.out.keep hb)
      clear ho hb A1
      refine run_mov (v := .tuple #[.agg #[.int .i64 yuk, .slice yua1 yun1 yum1, .slice yua2 yun2 yum2, .slice yua3 yun3 yum3, .slice yua4 yun4 yum4, .slice yua5 yun5 yum5, .int .i64 yuc, .int .i64 yue], .string sV]) (show opAt (opsOf Tryz.f5 1) 4 = some (some 6, .move (.tmp 10), none) from by kernel_rfl) (by kernel_rfl) (by kernel_rfl) (by kernel_rfl) ?_
      refine run_extract (vs := #[.agg #[.int .i64 yuk, .slice yua1 yun1 yum1, .slice yua2 yun2 yum2, .slice yua3 yun3 yum3, .slice yua4 yun4 yum4, .slice yua5 yun5 yum5, .int .i64 yuc, .int .i64 yue], .string sV]) (v := .agg #[.int .i64 yuk, .slice yua1 yun1 yum1, .slice yua2 yun2 yum2, .slice yua3 yun3 yum3, .slice yua4 yun4 yum4, .slice yua5 yun5 yum5, .int .i64 yuc, .int .i64 yue]) (show opAt (opsOf Tryz.f5 1) 5 = some (some 11, .extract (.tmp 6) 0, none) from by kernel_rfl) (by kernel_rfl) (by kernel_rfl) (by kernel_rfl) (by rfl) ?_
      refine run_extract (vs := #[.agg #[.int .i64 yuk, .slice yua1 yun1 yum1, .slice yua2 yun2 yum2, .slice yua3 yun3 yum3, .slice yua4 yun4 yum4, .slice yua5 yun5 yum5, .int .i64 yuc, .int .i64 yue], .string sV]) (v := .string sV) (show opAt (opsOf Tryz.f5 1) 6 = some (some 12, .extract (.tmp 6) 1, none) from by kernel_rfl) (by kernel_rfl) (by kernel_rfl) (by kernel_rfl) (by rfl) ?_
      refine run_store (w' := World.setRow _ n7 #[.int .i64 yuk, .slice yua1 yun1 yum1, .slice yua2 yun2 yum2, .slice yua3 yun3 yum3, .slice yua4 yun4 yum4, .slice yua5 yun5 yum5, .int .i64 yuc, .int .i64 yue]) (show opAt (opsOf Tryz.f5 1) 8 = some (none, .store 31 (.tmp 4) (.tmp 11), none) from by kernel_rfl) (by kernel_rfl) (by kernel_rfl) (by kernel_rfl) (store_vec8 NV.out.out (by simp [Value.oneCell'])) ⟨below_row H.out.1 GV.out _, fun q hq => row_old (H.out.2 q hq) (by obtain rfl := List.mem_singleton.1 hq; have := FV.out; simp only; omega)⟩ ?_
      refine run_asg (v := .string sV) (show opAt (opsOf Tryz.f5 1) 9 = some (some 5, .assign (.tmp 12), none) from by kernel_rfl) (by kernel_rfl) (by kernel_rfl) (by kernel_rfl) ?_
      refine run_done ?_
      simp only [putAll, Act.put, List.setIfInBounds_toArray, List.set_cons_zero, List.set_cons_succ]
      go_wp2_with fail
      go_meet
      exact ⟨_, _, rfl, rfl, ⟨row_set NV.out.out, (OU.out.own.rowO (.inl UB.out)).wide LU.out (Nat.le_trans OU.out.hh (row_size _ _ _)), below_row H.out.1 GV.out _, GV.out⟩⟩
  case rest =>
    obtain ⟨wk, rfl⟩ : ∃ u : World, u = wc := ⟨_, rfl⟩
    obtain ⟨gu, C, rfl, rfl, hm⟩ := hcut
    obtain ⟨uk, ua1, un1, um1, ua2, un2, um2, ua3, un3, um3, ua4, un4, um4, ua5, un5, um5, uc, ue, rfl⟩ := hm.cells
    have HM := Lib.hid hm
    have KR := Lib.hid (blk_below hm.below KR.out)
    obtain ⟨u0, u1, u2, u3, u4, u5, u6, u7⟩ := vec8 hm.blk
    obtain ⟨z0, z1, z2, z3, z4, z5, z6, z7⟩ := vec8 KR.out
    obtain ⟨f0, f1, f2, f3, f4, f5, f6, f7⟩ := free8 KR.out
    clear hm H
    go_wp2
    exact vec_endS rfl rfl rfl rfl KR.out ⟨_, rfl, (HM.out.own.put8 (by have := SW.out; omega) _ _ _ _ _ _ _ _).wide (by have := SW.out; omega) (by rw [put8_size]; exact Nat.le_refl _), put8_below (below_then B1.out HM.out.below) (Nat.le_succ _)⟩
theorem ng_plain {d : Nat} {v : Vec} (hsm : Small d v) : PlainN (ngV v) := ari_plain _ zro_small hsm
end Go.Proofs.YtjpdnabfpiengaaGreat
