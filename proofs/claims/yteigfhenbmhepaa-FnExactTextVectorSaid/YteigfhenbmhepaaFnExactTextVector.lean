/- Called with any arguments (lists of strings), the law FnExactTextVector returns true and leaves everything as it was. No condition. -/
import Derived.Test.YteigfhenbmhepaaRows
import Derived.Test.YteigfhenbmhepaaVecTxt
import Derived.Test.YteigfhenbmhepaaLawItems
import Derived.WalkKit
import Derived.ProofKit
import Derived.OpenShut
import Derived.ShutString
import Derived.ChangeOld
import Derived.Carry
import Derived.Below
namespace Go.Proofs.Yteigfhenbmhepaa.fnExactTextVector
open Go.ChangeShapes Go.WideShapes Go.ChangeAt Go.RowKit
open Go.ChangeMaps (open_string shut_string)
set_option linter.unusedVariables false

theorem laidOut : laidOutB Try.prog = true := by kernel_rfl
theorem own : ownKnob Try.prog.godebug = none := by kernel_rfl

theorem textV_small (f : Nat → ByteArray) (n : Nat) (h : ∀ i, i < n → (f i).size ≤ 1048576) : Small 1 (textV f n) := by
  by_cases h40 : n ≤ 40
  · by_cases hl : LongIn f n
    · rw [textV_long hl]; exact small_noV
    · rw [textV_yes h40 hl]; exact small_vecOf (by rw [itF_len]; omega) (fun x hx => by obtain ⟨i, hi, rfl⟩ := mem_itF hx; exact h i hi)
  · rw [textV_big h40]; exact small_noV
theorem textV_fits (f : Nat → ByteArray) (n : Nat) (h : ∀ i, i < n → (f i).size ≤ 1048576) : Fits 1 (textV f n) := by
  by_cases h40 : n ≤ 40
  · by_cases hl : LongIn f n
    · rw [textV_long hl]; exact fits_noV
    · rw [textV_yes h40 hl]; exact fits_vecOf (by decide) (by rw [itF_len]; omega) (fun x hx => by obtain ⟨i, hi, rfl⟩ := mem_itF hx; exact ⟨⟨by show (-9223372036854775808 : Int) ≤ 0; decide, by show (0 : Int) ≤ 9223372036854775807; decide⟩, ⟨by show (-9223372036854775808 : Int) ≤ 1; decide, by show (1 : Int) ≤ 9223372036854775807; decide⟩, by have := h i hi; show (f i).size ≤ maxLen; unfold maxLen; omega⟩)
  · rw [textV_big h40]; exact fits_noV
theorem textV_cnt (f : Nat → ByteArray) (n : Nat) : 1 + cntM 1 (textV f n) ≤ 8000000 := by
  by_cases h40 : n ≤ 40
  · by_cases hl : LongIn f n
    · rw [textV_long hl, cnt_noV]; omega
    · rw [textV_yes h40 hl, cnt_vecOf, itF_len]; omega
  · rw [textV_big h40, cnt_noV]; omega

set_option maxHeartbeats 1000000 in
set_option maxRecDepth 100000 in
theorem walk (a0 : Option Addr) (n0 cap0 : Nat) (f0 : Nat → ByteArray) (w : World) (hs0 : StrsAt w.heap.size w a0 n0 f0) (hn0 : n0 ≤ maxLen) (hf0 : ∀ i, (f0 i).size ≤ maxLen) :
    Calls Try.prog 5 #[.slice a0 n0 cap0] w fun e w' => e = .returned (.bool true) ∧ Below w.heap.size w w' := by
  have S := Lib.hid hs0
  have hsz := szStrs a0 n0 cap0 1048576 f0 w.heap.size w S.out hn0 (by omega) (by omega) (fun i _ => hf0 i)
  clear hs0
  by_cases hR : (n0 : Int) + sumF f0 n0 ≤ 1048576
  · have hr : szR 1048576 n0 f0 = 1048576 - n0 - sumF f0 n0 := by unfold szR; rw [if_pos hR]
    rw [hr] at hsz
    have SZ := Lib.hid hsz
    have hn1 : n0 ≤ 1048576 := by omega
    have hz1 : ∀ i, i < n0 → (f0 i).size ≤ 1048576 := fun i hi => by have := sumF_at f0 hi; omega
    clear hr hsz
    have TO0 := Lib.hid (fun (w1 : World) (hb : Below w.heap.size w w1) => toStrsR a0 n0 cap0 f0 w.heap.size w1 (S.out.below hb) hb.size hn1)
    have QE0 := Lib.hid (fun (w1 : World) (a b : Option Addr) (ha : StrsAt w1.heap.size w1 a n0 f0) (hb : StrsAt w1.heap.size w1 b n0 f0) => eqStrsR a b n0 n0 n0 f0 w1.heap.size w1 ha hb hn1)
    have MK0 := Lib.hid (fun (w1 : World) (a : Option Addr) (lo hi : Nat) (h : OwnS a n0 f0 lo hi w1) => (show Calls Try.prog 28 #[.slice a n0 n0, .int .i64 1] w1 (fun e w' => e = .returned (.int .i64 (1 + (n0 : Int))) ∧ Within lo hi w1 w') from markStrsR a n0 n0 1 f0 lo hi w1 h hn1 (Nat.le_refl _) (by omega)))
    have SP := Lib.hid (fun (w1 : World) (a : Option Addr) (h : StrsAt w1.heap.size w1 a n0 f0) => specTxtVec a n0 n0 f0 w1.heap.size w1 h (Nat.le_refl _) hn1 hz1)
    have IM := Lib.hid (fun (w1 : World) (a : Option Addr) (h : StrsAt w1.heap.size w1 a n0 f0) => implTxtVec a n0 n0 f0 w1.heap.size w1 h (Nat.le_refl _) hn1 hz1)
    have HS0 := textV_small f0 n0 hz1
    have HF0 := textV_fits f0 n0 hz1
    have HC0 := textV_cnt f0 n0
    obtain ⟨V, hV⟩ : ∃ V, textV f0 n0 = V := ⟨_, rfl⟩
    rw [hV] at SP IM HS0 HF0 HC0
    clear hV
    have SMV := Lib.hid (HS0)
    have FTV := Lib.hid (HF0)
    have CMV := Lib.hid (HC0)
    have EQ := Lib.hid (fun (w1 : World) (x y : Value) (h : VecAt 0 w1.heap.size w1 1 V x) (k : VecAt 0 w1.heap.size w1 1 V y) => (eqAll 1).out V x y 0 w1.heap.size 0 w1.heap.size w1 h (Nat.le_refl _) k (Nat.le_refl _) FTV.out)
    have MV := Lib.hid (fun (w1 : World) (y : Value) (lo hi : Nat) (h : Own 1 V y lo hi w1) (hh : hi ≤ w1.heap.size) => markOwn 1 V y lo hi w1 h hh SMV.out CMV.out)
    have HV := Lib.hid (fun (w1 : World) (y : Value) (lo hi : Nat) (h : Own 1 (markV 1 1 V) y lo hi w1) (hh : hi ≤ w1.heap.size) => heldOwn 1 V y lo hi w1 h hh SMV.out CMV.out)
    clear SMV FTV CMV
    obtain ⟨cm, hcm'⟩ : ∃ c, 1 + cntM 1 V = c := ⟨_, rfl⟩
    rw [hcm'] at MV HV
    clear hcm'
    clear HS0 HF0 HC0 hn0 hf0 hz1
    obtain ⟨sm, hsm⟩ : ∃ x, sumF f0 n0 = x := ⟨_, rfl⟩
    rw [hsm] at SZ hR
    clear hsm
    go_enter Try.func5, Try.ntmps5
    go_wp2_with fail
    with_reducible refine SZ.out.mono ?_
    rintro e w' ⟨rfl, rfl⟩
    go_wp2_with fail
    with_reducible refine (TO0.out _ (Below.refl _ _)).mono ?_
    rintro e w1 ⟨xs0, rfl, ho, b⟩
    have Z1 := Lib.hid b.size
    have B1 := Lib.hid (below_then (Below.refl _ _) b)
    clear b
    have As0_1 := Lib.hid (ho)
    have As0_h1 := Lib.hid ((Nat.le_refl _) : w1.heap.size ≤ w1.heap.size)
    clear ho
    go_wp2_with fail
    with_reducible refine (SP.out _ xs0 (As0_1.out.at_ As0_h1.out)).mono ?_
    rintro e w2 ⟨y, rfl, ho, b⟩
    obtain ⟨uk, ua1, un1, um1, ua2, un2, um2, ua3, un3, um3, ua4, un4, um4, ua5, un5, um5, uc, ue, rfl⟩ := ho.agg
    have Z2 := Lib.hid b.size
    have B2 := Lib.hid (below_then B1.out b)
    have As0_2 := Lib.hid (As0_1.out.below b As0_h1.out)
    have As0_h2 := Lib.hid (Nat.le_trans As0_h1.out b.size)
    clear As0_1 As0_h1
    clear b
    have Ou2 := Lib.hid (ho)
    have Ouh2 := Lib.hid ((Nat.le_refl _) : w2.heap.size ≤ w2.heap.size)
    clear ho
    clear As0_2 As0_h2
    go_wp2_with fail
    obtain ⟨w3, hW⟩ : ∃ W, w2.alloc (.cells #[.int .i64 uk, .slice ua1 un1 um1, .slice ua2 un2 um2, .slice ua3 un3 um3, .slice ua4 un4 um4, .slice ua5 un5 um5, .int .i64 uc, .int .i64 ue] 27) = W := ⟨_, rfl⟩
    have b : Below w2.heap.size w2 w3 := hW ▸ below1 w2 _
    have kb : w3.heap[w2.heap.size]? = some (.cells #[.int .i64 uk, .slice ua1 un1 um1, .slice ua2 un2 um2, .slice ua3 un3 um3, .slice ua4 un4 um4, .slice ua5 un5 um5, .int .i64 uc, .int .i64 ue] 27 (0, 0)) := hW ▸ blk_new w2 _ rfl
    rw [hW]
    clear hW
    have Z3 := Lib.hid b.size
    have B3 := Lib.hid (below_then B2.out b)
    have Ou3 := Lib.hid (Ou2.out.below b Ouh2.out)
    have Ouh3 := Lib.hid (Nat.le_trans Ouh2.out b.size)
    clear Ou2 Ouh2
    clear b
    have ZS3 := Lib.hid (Array.getElem?_eq_some_iff.1 kb).1
    have Ku3 := Lib.hid (kb)
    clear kb
    with_reducible refine (TO0.out _ B3.out).mono ?_
    rintro e w4 ⟨xx0, rfl, ho, b⟩
    have Z4 := Lib.hid b.size
    have B4 := Lib.hid (below_then B3.out b)
    have Ou4 := Lib.hid (Ou3.out.below b Ouh3.out)
    have Ouh4 := Lib.hid (Nat.le_trans Ouh3.out b.size)
    clear Ou3 Ouh3
    have Ku4 := Lib.hid (blk_below b Ku3.out)
    clear Ku3
    clear b
    have Ax0_4 := Lib.hid (ho)
    have Ax0_h4 := Lib.hid ((Nat.le_refl _) : w4.heap.size ≤ w4.heap.size)
    clear ho
    go_wp2_with fail
    with_reducible refine (IM.out _ xx0 (Ax0_4.out.at_ Ax0_h4.out)).mono ?_
    rintro e w5 ⟨y, rfl, ho, b⟩
    obtain ⟨gk, ga1, gn1, gm1, ga2, gn2, gm2, ga3, gn3, gm3, ga4, gn4, gm4, ga5, gn5, gm5, gc, ge, rfl⟩ := ho.agg
    have Z5 := Lib.hid b.size
    have B5 := Lib.hid (below_then B4.out b)
    have Ou5 := Lib.hid (Ou4.out.below b Ouh4.out)
    have Ouh5 := Lib.hid (Nat.le_trans Ouh4.out b.size)
    clear Ou4 Ouh4
    have Ku5 := Lib.hid (blk_below b Ku4.out)
    clear Ku4
    have Ax0_5 := Lib.hid (Ax0_4.out.below b Ax0_h4.out)
    have Ax0_h5 := Lib.hid (Nat.le_trans Ax0_h4.out b.size)
    clear Ax0_4 Ax0_h4
    clear b
    have Og5 := Lib.hid (ho)
    have Ogh5 := Lib.hid ((Nat.le_refl _) : w5.heap.size ≤ w5.heap.size)
    clear ho
    obtain ⟨uk0, uk1, uk2, uk3, uk4, uk5, uk6, uk7⟩ := vec8 Ku5.out
    have hzu := (Array.getElem?_eq_some_iff.1 Ku5.out).1
    go_wp2_with fail
    obtain ⟨w6, hW⟩ : ∃ W, w5.alloc (.cells #[.int .i64 gk, .slice ga1 gn1 gm1, .slice ga2 gn2 gm2, .slice ga3 gn3 gm3, .slice ga4 gn4 gm4, .slice ga5 gn5 gm5, .int .i64 gc, .int .i64 ge] 27) = W := ⟨_, rfl⟩
    have b : Below w5.heap.size w5 w6 := hW ▸ below1 w5 _
    have kb : w6.heap[w5.heap.size]? = some (.cells #[.int .i64 gk, .slice ga1 gn1 gm1, .slice ga2 gn2 gm2, .slice ga3 gn3 gm3, .slice ga4 gn4 gm4, .slice ga5 gn5 gm5, .int .i64 gc, .int .i64 ge] 27 (0, 0)) := hW ▸ blk_new w5 _ rfl
    rw [hW]
    clear hW
    have Z6 := Lib.hid b.size
    have B6 := Lib.hid (below_then B5.out b)
    have Ou6 := Lib.hid (Ou5.out.below b Ouh5.out)
    have Ouh6 := Lib.hid (Nat.le_trans Ouh5.out b.size)
    clear Ou5 Ouh5
    have Ku6 := Lib.hid (blk_below b Ku5.out)
    clear Ku5
    have Ax0_6 := Lib.hid (Ax0_5.out.below b Ax0_h5.out)
    have Ax0_h6 := Lib.hid (Nat.le_trans Ax0_h5.out b.size)
    clear Ax0_5 Ax0_h5
    have Og6 := Lib.hid (Og5.out.below b Ogh5.out)
    have Ogh6 := Lib.hid (Nat.le_trans Ogh5.out b.size)
    clear Og5 Ogh5
    clear b
    have ZS6 := Lib.hid (Array.getElem?_eq_some_iff.1 kb).1
    have Kg6 := Lib.hid (kb)
    clear kb
    with_reducible refine (EQ.out _ _ _ (Og6.out.vat Ogh6.out) (Ou6.out.vat Ouh6.out)).mono ?_
    rintro e w7 ⟨rfl, b⟩
    try clear hzu
    clear uk0 uk1 uk2 uk3 uk4 uk5 uk6 uk7
    have Z7 := Lib.hid b.size
    have B7 := Lib.hid (below_then B6.out b)
    have Ou7 := Lib.hid (Ou6.out.below b Ouh6.out)
    have Ouh7 := Lib.hid (Nat.le_trans Ouh6.out b.size)
    clear Ou6 Ouh6
    have Ku7 := Lib.hid (blk_below b Ku6.out)
    clear Ku6
    have Ax0_7 := Lib.hid (Ax0_6.out.below b Ax0_h6.out)
    have Ax0_h7 := Lib.hid (Nat.le_trans Ax0_h6.out b.size)
    clear Ax0_6 Ax0_h6
    have Og7 := Lib.hid (Og6.out.below b Ogh6.out)
    have Ogh7 := Lib.hid (Nat.le_trans Ogh6.out b.size)
    clear Og6 Ogh6
    have Kg7 := Lib.hid (blk_below b Kg6.out)
    clear Kg6
    clear b
    go_wp2_with fail
    with_reducible refine (TO0.out _ B7.out).mono ?_
    rintro e w8 ⟨xq0, rfl, ho, b⟩
    have Z8 := Lib.hid b.size
    have B8 := Lib.hid (below_then B7.out b)
    have Ou8 := Lib.hid (Ou7.out.below b Ouh7.out)
    have Ouh8 := Lib.hid (Nat.le_trans Ouh7.out b.size)
    clear Ou7 Ouh7
    have Ku8 := Lib.hid (blk_below b Ku7.out)
    clear Ku7
    have Ax0_8 := Lib.hid (Ax0_7.out.below b Ax0_h7.out)
    have Ax0_h8 := Lib.hid (Nat.le_trans Ax0_h7.out b.size)
    clear Ax0_7 Ax0_h7
    have Og8 := Lib.hid (Og7.out.below b Ogh7.out)
    have Ogh8 := Lib.hid (Nat.le_trans Ogh7.out b.size)
    clear Og7 Ogh7
    have Kg8 := Lib.hid (blk_below b Kg7.out)
    clear Kg7
    clear b
    have Aq0_8 := Lib.hid (ho)
    have Aq0_h8 := Lib.hid ((Nat.le_refl _) : w8.heap.size ≤ w8.heap.size)
    clear ho
    go_wp2_with fail
    with_reducible refine (QE0.out _ _ _ (Ax0_8.out.at_ Ax0_h8.out) (Aq0_8.out.at_ Aq0_h8.out)).mono ?_
    rintro e w9 ⟨rfl, b⟩
    have Z9 := Lib.hid b.size
    have B9 := Lib.hid (below_then B8.out b)
    have Ou9 := Lib.hid (Ou8.out.below b Ouh8.out)
    have Ouh9 := Lib.hid (Nat.le_trans Ouh8.out b.size)
    clear Ou8 Ouh8
    have Ku9 := Lib.hid (blk_below b Ku8.out)
    clear Ku8
    have Ax0_9 := Lib.hid (Ax0_8.out.below b Ax0_h8.out)
    have Ax0_h9 := Lib.hid (Nat.le_trans Ax0_h8.out b.size)
    clear Ax0_8 Ax0_h8
    have Og9 := Lib.hid (Og8.out.below b Ogh8.out)
    have Ogh9 := Lib.hid (Nat.le_trans Ogh8.out b.size)
    clear Og8 Ogh8
    have Kg9 := Lib.hid (blk_below b Kg8.out)
    clear Kg8
    have Aq0_9 := Lib.hid (Aq0_8.out.below b Aq0_h8.out)
    have Aq0_h9 := Lib.hid (Nat.le_trans Aq0_h8.out b.size)
    clear Aq0_8 Aq0_h8
    clear b
    clear Aq0_9 Aq0_h9
    go_wp2_with fail
    with_reducible refine (MK0.out _ _ _ _ Ax0_9.out).mono ?_
    rintro e w10 ⟨rfl, t⟩
    have Z10 := Lib.hid t.size
    have B10 := Lib.hid (B9.out.trans (t.below (Nat.le_trans (Nat.le_trans Z1.out Z2.out) Z3.out) B9.out.size))
    have Ou10 := Lib.hid (Ou9.out.within t (.inl Z3.out) Ouh9.out)
    have Ouh10 := Lib.hid (Nat.le_trans Ouh9.out t.size)
    clear Ou9 Ouh9
    have Ku10 := Lib.hid (t.blk (.inl (Nat.lt_of_lt_of_le ZS3.out (Nat.le_refl _))) Ku9.out)
    clear Ku9
    have Og10 := Lib.hid (Og9.out.within t (.inr (Nat.le_refl _)) Ogh9.out)
    have Ogh10 := Lib.hid (Nat.le_trans Ogh9.out t.size)
    clear Og9 Ogh9
    have Kg10 := Lib.hid (t.blk (.inr Z5.out) Kg9.out)
    clear Kg9
    clear Ax0_9 Ax0_h9
    clear t
    obtain ⟨gk0, gk1, gk2, gk3, gk4, gk5, gk6, gk7⟩ := vec8 Kg10.out
    obtain ⟨uk0, uk1, uk2, uk3, uk4, uk5, uk6, uk7⟩ := vec8 Ku10.out
    go_wp2_with fail
    with_reducible refine (EQ.out _ _ _ (Og10.out.vat Ogh10.out) (Ou10.out.vat Ouh10.out)).mono ?_
    rintro e w11 ⟨rfl, b⟩
    try clear hzg
    clear gk0 gk1 gk2 gk3 gk4 gk5 gk6 gk7
    try clear hzu
    clear uk0 uk1 uk2 uk3 uk4 uk5 uk6 uk7
    have Z11 := Lib.hid b.size
    have B11 := Lib.hid (below_then B10.out b)
    have Ou11 := Lib.hid (Ou10.out.below b Ouh10.out)
    have Ouh11 := Lib.hid (Nat.le_trans Ouh10.out b.size)
    clear Ou10 Ouh10
    have Ku11 := Lib.hid (blk_below b Ku10.out)
    clear Ku10
    have Og11 := Lib.hid (Og10.out.below b Ogh10.out)
    have Ogh11 := Lib.hid (Nat.le_trans Ogh10.out b.size)
    clear Og10 Ogh10
    have Kg11 := Lib.hid (blk_below b Kg10.out)
    clear Kg10
    clear b
    obtain ⟨gk0, gk1, gk2, gk3, gk4, gk5, gk6, gk7⟩ := vec8 Kg11.out
    go_wp2_with fail
    with_reducible refine (MV.out _ _ _ _ Og11.out Ogh11.out).mono ?_
    rintro e w12 ⟨rfl, ho, t⟩
    try clear hzg
    clear gk0 gk1 gk2 gk3 gk4 gk5 gk6 gk7
    have Z12 := Lib.hid t.size
    have B12 := Lib.hid (B11.out.trans (t.below (Nat.le_trans (Nat.le_trans (Nat.le_trans Z1.out Z2.out) Z3.out) Z4.out) B11.out.size))
    have Ou12 := Lib.hid (Ou11.out.within t (.inl (Nat.le_trans Z3.out Z4.out)) Ouh11.out)
    have Ouh12 := Lib.hid (Nat.le_trans Ouh11.out t.size)
    clear Ou11 Ouh11
    have Ku12 := Lib.hid (t.blk (.inl (Nat.lt_of_lt_of_le ZS3.out Z4.out)) Ku11.out)
    clear Ku11
    have Kg12 := Lib.hid (t.blk (.inr (Nat.le_refl _)) Kg11.out)
    clear Kg11
    have Og12 := Lib.hid ho
    have Ogh12 := Lib.hid (Nat.le_trans Ogh11.out t.size)
    clear Og11 Ogh11 ho
    clear t
    obtain ⟨gk0, gk1, gk2, gk3, gk4, gk5, gk6, gk7⟩ := vec8 Kg12.out
    go_wp2_with fail
    with_reducible refine (HV.out _ _ _ _ Og12.out Ogh12.out).mono ?_
    rintro e w13 ⟨rfl, b⟩
    try clear hzg
    clear gk0 gk1 gk2 gk3 gk4 gk5 gk6 gk7
    have Z13 := Lib.hid b.size
    have B13 := Lib.hid (below_then B12.out b)
    have Ou13 := Lib.hid (Ou12.out.below b Ouh12.out)
    have Ouh13 := Lib.hid (Nat.le_trans Ouh12.out b.size)
    clear Ou12 Ouh12
    have Ku13 := Lib.hid (blk_below b Ku12.out)
    clear Ku12
    have Og13 := Lib.hid (Og12.out.below b Ogh12.out)
    have Ogh13 := Lib.hid (Nat.le_trans Ogh12.out b.size)
    clear Og12 Ogh12
    have Kg13 := Lib.hid (blk_below b Kg12.out)
    clear Kg12
    clear b
    go_wp2_with fail
    with_reducible refine (TO0.out _ B13.out).mono ?_
    rintro e w14 ⟨xt0, rfl, ho, b⟩
    have Z14 := Lib.hid b.size
    have B14 := Lib.hid (below_then B13.out b)
    have Ou14 := Lib.hid (Ou13.out.below b Ouh13.out)
    have Ouh14 := Lib.hid (Nat.le_trans Ouh13.out b.size)
    clear Ou13 Ouh13
    have Ku14 := Lib.hid (blk_below b Ku13.out)
    clear Ku13
    have Og14 := Lib.hid (Og13.out.below b Ogh13.out)
    have Ogh14 := Lib.hid (Nat.le_trans Ogh13.out b.size)
    clear Og13 Ogh13
    have Kg14 := Lib.hid (blk_below b Kg13.out)
    clear Kg13
    clear b
    have At0_14 := Lib.hid (ho)
    have At0_h14 := Lib.hid ((Nat.le_refl _) : w14.heap.size ≤ w14.heap.size)
    clear ho
    go_wp2_with fail
    with_reducible refine (IM.out _ xt0 (At0_14.out.at_ At0_h14.out)).mono ?_
    rintro e w15 ⟨y, rfl, ho, b⟩
    obtain ⟨hk, ha1, hn1, hm1, ha2, hn2, hm2, ha3, hn3, hm3, ha4, hn4, hm4, ha5, hn5, hm5, hc, he, rfl⟩ := ho.agg
    have Z15 := Lib.hid b.size
    have B15 := Lib.hid (below_then B14.out b)
    have Ou15 := Lib.hid (Ou14.out.below b Ouh14.out)
    have Ouh15 := Lib.hid (Nat.le_trans Ouh14.out b.size)
    clear Ou14 Ouh14
    have Ku15 := Lib.hid (blk_below b Ku14.out)
    clear Ku14
    have Og15 := Lib.hid (Og14.out.below b Ogh14.out)
    have Ogh15 := Lib.hid (Nat.le_trans Ogh14.out b.size)
    clear Og14 Ogh14
    have Kg15 := Lib.hid (blk_below b Kg14.out)
    clear Kg14
    have At0_15 := Lib.hid (At0_14.out.below b At0_h14.out)
    have At0_h15 := Lib.hid (Nat.le_trans At0_h14.out b.size)
    clear At0_14 At0_h14
    clear b
    have Oh15 := Lib.hid (ho)
    have Ohh15 := Lib.hid ((Nat.le_refl _) : w15.heap.size ≤ w15.heap.size)
    clear ho
    clear At0_15 At0_h15
    obtain ⟨uk0, uk1, uk2, uk3, uk4, uk5, uk6, uk7⟩ := vec8 Ku15.out
    have hzu := (Array.getElem?_eq_some_iff.1 Ku15.out).1
    go_wp2_with fail
    obtain ⟨w16, hW⟩ : ∃ W, w15.alloc (.cells #[.int .i64 hk, .slice ha1 hn1 hm1, .slice ha2 hn2 hm2, .slice ha3 hn3 hm3, .slice ha4 hn4 hm4, .slice ha5 hn5 hm5, .int .i64 hc, .int .i64 he] 27) = W := ⟨_, rfl⟩
    have b : Below w15.heap.size w15 w16 := hW ▸ below1 w15 _
    have kb : w16.heap[w15.heap.size]? = some (.cells #[.int .i64 hk, .slice ha1 hn1 hm1, .slice ha2 hn2 hm2, .slice ha3 hn3 hm3, .slice ha4 hn4 hm4, .slice ha5 hn5 hm5, .int .i64 hc, .int .i64 he] 27 (0, 0)) := hW ▸ blk_new w15 _ rfl
    rw [hW]
    clear hW
    have Z16 := Lib.hid b.size
    have B16 := Lib.hid (below_then B15.out b)
    have Ou16 := Lib.hid (Ou15.out.below b Ouh15.out)
    have Ouh16 := Lib.hid (Nat.le_trans Ouh15.out b.size)
    clear Ou15 Ouh15
    have Ku16 := Lib.hid (blk_below b Ku15.out)
    clear Ku15
    have Og16 := Lib.hid (Og15.out.below b Ogh15.out)
    have Ogh16 := Lib.hid (Nat.le_trans Ogh15.out b.size)
    clear Og15 Ogh15
    have Kg16 := Lib.hid (blk_below b Kg15.out)
    clear Kg15
    have Oh16 := Lib.hid (Oh15.out.below b Ohh15.out)
    have Ohh16 := Lib.hid (Nat.le_trans Ohh15.out b.size)
    clear Oh15 Ohh15
    clear b
    have ZS16 := Lib.hid (Array.getElem?_eq_some_iff.1 kb).1
    have Kh16 := Lib.hid (kb)
    clear kb
    with_reducible refine (EQ.out _ _ _ (Oh16.out.vat Ohh16.out) (Ou16.out.vat Ouh16.out)).mono ?_
    rintro e w17 ⟨rfl, b⟩
    try clear hzu
    clear uk0 uk1 uk2 uk3 uk4 uk5 uk6 uk7
    have Z17 := Lib.hid b.size
    have B17 := Lib.hid (below_then B16.out b)
    have Ou17 := Lib.hid (Ou16.out.below b Ouh16.out)
    have Ouh17 := Lib.hid (Nat.le_trans Ouh16.out b.size)
    clear Ou16 Ouh16
    have Ku17 := Lib.hid (blk_below b Ku16.out)
    clear Ku16
    have Og17 := Lib.hid (Og16.out.below b Ogh16.out)
    have Ogh17 := Lib.hid (Nat.le_trans Ogh16.out b.size)
    clear Og16 Ogh16
    have Kg17 := Lib.hid (blk_below b Kg16.out)
    clear Kg16
    have Oh17 := Lib.hid (Oh16.out.below b Ohh16.out)
    have Ohh17 := Lib.hid (Nat.le_trans Ohh16.out b.size)
    clear Oh16 Ohh16
    have Kh17 := Lib.hid (blk_below b Kh16.out)
    clear Kh16
    clear b
    obtain ⟨gk0, gk1, gk2, gk3, gk4, gk5, gk6, gk7⟩ := vec8 Kg17.out
    go_wp2_with fail
    with_reducible refine (HV.out _ _ _ _ Og17.out Ogh17.out).mono ?_
    rintro e w18 ⟨rfl, b⟩
    try clear hzg
    clear gk0 gk1 gk2 gk3 gk4 gk5 gk6 gk7
    have Z18 := Lib.hid b.size
    have B18 := Lib.hid (below_then B17.out b)
    have Ou18 := Lib.hid (Ou17.out.below b Ouh17.out)
    have Ouh18 := Lib.hid (Nat.le_trans Ouh17.out b.size)
    clear Ou17 Ouh17
    have Ku18 := Lib.hid (blk_below b Ku17.out)
    clear Ku17
    have Og18 := Lib.hid (Og17.out.below b Ogh17.out)
    have Ogh18 := Lib.hid (Nat.le_trans Ogh17.out b.size)
    clear Og17 Ogh17
    have Kg18 := Lib.hid (blk_below b Kg17.out)
    clear Kg17
    have Oh18 := Lib.hid (Oh17.out.below b Ohh17.out)
    have Ohh18 := Lib.hid (Nat.le_trans Ohh17.out b.size)
    clear Oh17 Ohh17
    have Kh18 := Lib.hid (blk_below b Kh17.out)
    clear Kh17
    clear b
    go_wp2
    go_ret
    exact ⟨rfl, B18.out⟩
  · have hr : szR 1048576 n0 f0 = -1 := by unfold szR; rw [if_neg hR]
    rw [hr] at hsz
    have SZ := Lib.hid hsz
    clear hr hsz
    go_enter Try.func5, Try.ntmps5
    go_wp2_with fail
    with_reducible refine SZ.out.mono ?_
    rintro e w' ⟨rfl, rfl⟩
    go_wp2
    go_ret
    exact ⟨rfl, Below.refl _ _⟩

set_option maxRecDepth 100000 in
theorem lifted (os : Os) (started : os.Started) (H : Type) (enc : TypeId × Value → H) :
    ReturnsInHanded {} Try.checked os 5 .any (Rows.fnExactTextVectorSpec.pre6 enc Try.prog Try.f5 Rows.fnExactTextVectorRow.domain false) (Rows.fnExactTextVectorSpec.post enc Try.prog Try.f5 false true false false) := by
  refine returnsInHanded_of_change (C := Try.checked) own started (by kernel_rfl) Try.func5
    (ChangeSpec.witness6 (enc := enc) (C := Try.checked) false ⟨#[], #[.slice none 0 0], []⟩ 8 (by kernel_rfl) (by kernel_rfl) (by kernel_rfl) (by kernel_rfl)) ?_
  intro W base args ds gs before hval0 hW hcnd _
  have hval : ∀ (j : Nat) t v, Try.f5.params[j]? = some t → args[j]? = some v → Value.okWide Try.prog W .any base t v := hval0
  have hW' := hW
  obtain ⟨p, q, hA0, hV, rfl, hfz, hnd⟩ := hW
  have hA : DataW.TrodAll enc Try.prog W 0 (fun _ => true) true Try.f5.params.toList args.toList ds p := hA0
  rw [Try.params5] at hA hval
  obtain ⟨v0, vs0, d0, ds0, p0, q0, hargs0, rfl, rfl, h0, r0⟩ := trodAll_cons hA
  obtain ⟨hnil, rfl, rfl⟩ := trodAll_nil r0
  have eargs : args.toList = [v0] := by rw [hargs0, hnil]
  obtain rfl : args = #[v0] := Array.toList_inj.1 eargs
  obtain ⟨rfl, rfl⟩ := trodVars_none hV
  have k0 := h0
  have lt0 : ∀ x ∈ p0, x.block < W.heap.size := by obtain ⟨m, hm⟩ := k0; exact DataW.trod_lt m _ _ _ hm
  clear hA0 eargs hargs0
  obtain ⟨a0, n0, cap0, rfl⟩ := okWide_slice Try.underlying25 (hval 0 25 v0 rfl rfl)
  obtain ⟨f0, hs0, hn0, hf0⟩ : ∃ f : Nat → ByteArray, StrsAt W.heap.size W a0 n0 f ∧ n0 ≤ maxLen ∧ ∀ i, (f i).size ≤ maxLen := by
    obtain ⟨fuel, hf⟩ := h0
    exact strs_in hf
  clear hval0
  refine (walk a0 n0 cap0 f0 W hs0 hn0 hf0).mono fun e W' ⟨he, bel⟩ => ?_
  subst he
  have kp0 := Below.trod laidOut (show Try.prog.readableRec 25 = true by kernel_rfl) (of_decide_eq_true (by kernel_rfl)) k0 bel lt0
  exact ⟨_, rfl, _, _, _, [], _, [], hW', trodAll_mk1 (shut_bool Try.underlying4 _), (trodAll_cons_mk kp0 trodAll_mk0), rfl, bel.frame _, fun h => by cases h⟩

theorem over : Rows.fnExactTextVectorRow.holds Try.pinned (OpenSpec.ofChange Rows.fnExactTextVectorSpec) :=
  OpenClaim.holds_of_wide 5 Try.f5 rfl rfl rfl rfl rfl rfl rfl ⟨rfl, rfl, rfl, rfl, rfl⟩ rfl rfl rfl rfl rfl (by kernel_rfl) Try.func5 (by kernel_rfl)
    (of_decide_eq_true (by kernel_rfl)) (by unfold Func.isWrapper; first | (rw [if_pos (by decide +kernel)]; kernel_rfl) | (rw [if_neg (by decide +kernel)]; exact ⟨rfl, rfl⟩))
    (fun os started H enc _ => lifted os started H enc)

theorem proved : Rows.FnExactTextVectorSaid := over
end Go.Proofs.Yteigfhenbmhepaa.fnExactTextVector
