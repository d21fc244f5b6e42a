/- Called with any arguments (ints, ints), the law FnExactSequenceOf returns true and leaves everything as it was. No condition. -/
import Derived.Test.YteigfhenbmhepaaRows
import Derived.Test.YteigfhenbmhepaaVecSeq
import Derived.Test.YteigfhenbmhepaaLawItemsB
import Derived.WalkKit
import Derived.ProofKit
import Derived.OpenShut
import Derived.ShutString
import Derived.ChangeOld
import Derived.Carry
import Derived.Below
namespace Go.Proofs.Yteigfhenbmhepaa.fnExactSequenceOf
open Go.ChangeShapes Go.WideShapes Go.ChangeAt Go.RowKit
open Go.ChangeMaps (open_string shut_string)
set_option linter.unusedVariables false

theorem laidOut : laidOutB Try.prog = true := by kernel_rfl
theorem own : ownKnob Try.prog.godebug = none := by kernel_rfl

theorem seqV_plain (a b : Int) : PlainV (seqV a b) := by
  by_cases h : SeqOk a b
  · rw [seqV_yes h]
    refine plain_itF (by decide) (by have := h.2.2; omega) (fun i hi => ?_)
    have hw := seqI_in h hi
    exact ⟨inB_small ⟨⟨by have := hw.1; omega, by have := hw.2; omega⟩, by decide⟩, Nat.zero_le _⟩
  · rw [seqV_no h]; exact .inl rfl

set_option maxHeartbeats 1000000 in
set_option maxRecDepth 100000 in
theorem walk (a0 : Int) (i0 : -9223372036854775808 ≤ a0 ∧ a0 ≤ 9223372036854775807) (a1 : Int) (i1 : -9223372036854775808 ≤ a1 ∧ a1 ≤ 9223372036854775807) (w : World) :
    Calls Try.prog 6 #[.int .i64 a0, .int .i64 a1] w fun e w' => e = .returned (.bool true) ∧ Below w.heap.size w w' := by
  have SP := Lib.hid (fun (w1 : World) => specSeq a0 a1 w1 i0 i1)
  have IM := Lib.hid (fun (w1 : World) => implSeq a0 a1 w1 i0 i1)
  have PV := seqV_plain a0 a1
  have HS0 := PV.small
  have HF0 := PV.fits
  have HC0 := PV.cnt
  obtain ⟨V, hV⟩ : ∃ V, seqV a0 a1 = V := ⟨_, rfl⟩
  obtain ⟨s, hs⟩ : ∃ s, seqS a0 a1 = s := ⟨_, rfl⟩
  rw [hV] at SP IM HS0 HF0 HC0
  rw [hs] at SP IM
  clear hV hs PV
  have SMV := Lib.hid (HS0)
  have FTV := Lib.hid (HF0)
  have CMV := Lib.hid (HC0)
  have EQ := Lib.hid (fun (w1 : World) (x y : Value) (h : VecAt 0 w1.heap.size w1 1 V x) (k : VecAt 0 w1.heap.size w1 1 V y) => (eqAll 1).out V x y 0 w1.heap.size 0 w1.heap.size w1 h (Nat.le_refl _) k (Nat.le_refl _) FTV.out)
  have MV := Lib.hid (fun (w1 : World) (y : Value) (lo hi : Nat) (h : Own 1 V y lo hi w1) (hh : hi ≤ w1.heap.size) => markOwn 1 V y lo hi w1 h hh SMV.out CMV.out)
  have HV := Lib.hid (fun (w1 : World) (y : Value) (lo hi : Nat) (h : Own 1 (markV 1 1 V) y lo hi w1) (hh : hi ≤ w1.heap.size) => heldOwn 1 V y lo hi w1 h hh SMV.out CMV.out)
  clear SMV FTV CMV
  obtain ⟨cm, hcm'⟩ : ∃ c, 1 + cntM 1 V = c := ⟨_, rfl⟩
  rw [hcm'] at MV HV
  clear hcm'
  clear HS0 HF0 HC0
  go_enter Try.func6, Try.ntmps6
  go_wp2_with fail
  with_reducible refine (SP.out _  ).mono ?_
  rintro e w1 ⟨y, rfl, ho, b⟩
  obtain ⟨uk, ua1, un1, um1, ua2, un2, um2, ua3, un3, um3, ua4, un4, um4, ua5, un5, um5, uc, ue, rfl⟩ := ho.agg
  have Z1 := Lib.hid b.size
  have B1 := Lib.hid (below_then (Below.refl _ _) b)
  clear b
  have Ou1 := Lib.hid (ho)
  have Ouh1 := Lib.hid ((Nat.le_refl _) : w1.heap.size ≤ w1.heap.size)
  clear ho
  go_wp2_with fail
  obtain ⟨w2, hW⟩ : ∃ W, w1.alloc (.cells #[.int .i64 uk, .slice ua1 un1 um1, .slice ua2 un2 um2, .slice ua3 un3 um3, .slice ua4 un4 um4, .slice ua5 un5 um5, .int .i64 uc, .int .i64 ue] 27) = W := ⟨_, rfl⟩
  have b : Below w1.heap.size w1 w2 := hW ▸ below1 w1 _
  have kb : w2.heap[w1.heap.size]? = some (.cells #[.int .i64 uk, .slice ua1 un1 um1, .slice ua2 un2 um2, .slice ua3 un3 um3, .slice ua4 un4 um4, .slice ua5 un5 um5, .int .i64 uc, .int .i64 ue] 27 (0, 0)) := hW ▸ blk_new w1 _ rfl
  rw [hW]
  clear hW
  have Z2 := Lib.hid b.size
  have B2 := Lib.hid (below_then B1.out b)
  have Ou2 := Lib.hid (Ou1.out.below b Ouh1.out)
  have Ouh2 := Lib.hid (Nat.le_trans Ouh1.out b.size)
  clear Ou1 Ouh1
  clear b
  have ZS2 := Lib.hid (Array.getElem?_eq_some_iff.1 kb).1
  have Ku2 := Lib.hid (kb)
  clear kb
  with_reducible refine (IM.out _  ).mono ?_
  rintro e w3 ⟨y, rfl, ho, b⟩
  obtain ⟨gk, ga1, gn1, gm1, ga2, gn2, gm2, ga3, gn3, gm3, ga4, gn4, gm4, ga5, gn5, gm5, gc, ge, rfl⟩ := ho.agg
  have Z3 := Lib.hid b.size
  have B3 := Lib.hid (below_then B2.out b)
  have Ou3 := Lib.hid (Ou2.out.below b Ouh2.out)
  have Ouh3 := Lib.hid (Nat.le_trans Ouh2.out b.size)
  clear Ou2 Ouh2
  have Ku3 := Lib.hid (blk_below b Ku2.out)
  clear Ku2
  clear b
  have Og3 := Lib.hid (ho)
  have Ogh3 := Lib.hid ((Nat.le_refl _) : w3.heap.size ≤ w3.heap.size)
  clear ho
  obtain ⟨uk0, uk1, uk2, uk3, uk4, uk5, uk6, uk7⟩ := vec8 Ku3.out
  have hzu := (Array.getElem?_eq_some_iff.1 Ku3.out).1
  go_wp2_with fail
  obtain ⟨w4, hW⟩ : ∃ W, w3.alloc (.cells #[.int .i64 gk, .slice ga1 gn1 gm1, .slice ga2 gn2 gm2, .slice ga3 gn3 gm3, .slice ga4 gn4 gm4, .slice ga5 gn5 gm5, .int .i64 gc, .int .i64 ge] 27) = W := ⟨_, rfl⟩
  have b : Below w3.heap.size w3 w4 := hW ▸ below1 w3 _
  have kb : w4.heap[w3.heap.size]? = some (.cells #[.int .i64 gk, .slice ga1 gn1 gm1, .slice ga2 gn2 gm2, .slice ga3 gn3 gm3, .slice ga4 gn4 gm4, .slice ga5 gn5 gm5, .int .i64 gc, .int .i64 ge] 27 (0, 0)) := hW ▸ blk_new w3 _ rfl
  rw [hW]
  clear hW
  have Z4 := Lib.hid b.size
  have B4 := Lib.hid (below_then B3.out b)
  have Ou4 := Lib.hid (Ou3.out.below b Ouh3.out)
  have Ouh4 := Lib.hid (Nat.le_trans Ouh3.out b.size)
  clear Ou3 Ouh3
  have Ku4 := Lib.hid (blk_below b Ku3.out)
  clear Ku3
  have Og4 := Lib.hid (Og3.out.below b Ogh3.out)
  have Ogh4 := Lib.hid (Nat.le_trans Ogh3.out b.size)
  clear Og3 Ogh3
  clear b
  have ZS4 := Lib.hid (Array.getElem?_eq_some_iff.1 kb).1
  have Kg4 := Lib.hid (kb)
  clear kb
  with_reducible refine (EQ.out _ _ _ (Og4.out.vat Ogh4.out) (Ou4.out.vat Ouh4.out)).mono ?_
  rintro e w5 ⟨rfl, b⟩
  try clear hzu
  clear uk0 uk1 uk2 uk3 uk4 uk5 uk6 uk7
  have Z5 := Lib.hid b.size
  have B5 := Lib.hid (below_then B4.out b)
  have Ou5 := Lib.hid (Ou4.out.below b Ouh4.out)
  have Ouh5 := Lib.hid (Nat.le_trans Ouh4.out b.size)
  clear Ou4 Ouh4
  have Ku5 := Lib.hid (blk_below b Ku4.out)
  clear Ku4
  have Og5 := Lib.hid (Og4.out.below b Ogh4.out)
  have Ogh5 := Lib.hid (Nat.le_trans Ogh4.out b.size)
  clear Og4 Ogh4
  have Kg5 := Lib.hid (blk_below b Kg4.out)
  clear Kg4
  clear b
  obtain ⟨gk0, gk1, gk2, gk3, gk4, gk5, gk6, gk7⟩ := vec8 Kg5.out
  go_wp2_with fail
  with_reducible refine (MV.out _ _ _ _ Og5.out Ogh5.out).mono ?_
  rintro e w6 ⟨rfl, ho, t⟩
  try clear hzg
  clear gk0 gk1 gk2 gk3 gk4 gk5 gk6 gk7
  have Z6 := Lib.hid t.size
  have B6 := Lib.hid (B5.out.trans (t.below (Nat.le_trans Z1.out Z2.out) B5.out.size))
  have Ou6 := Lib.hid (Ou5.out.within t (.inl Z2.out) Ouh5.out)
  have Ouh6 := Lib.hid (Nat.le_trans Ouh5.out t.size)
  clear Ou5 Ouh5
  have Ku6 := Lib.hid (t.blk (.inl (Nat.lt_of_lt_of_le ZS2.out (Nat.le_refl _))) Ku5.out)
  clear Ku5
  have Kg6 := Lib.hid (t.blk (.inr (Nat.le_refl _)) Kg5.out)
  clear Kg5
  have Og6 := Lib.hid ho
  have Ogh6 := Lib.hid (Nat.le_trans Ogh5.out t.size)
  clear Og5 Ogh5 ho
  clear t
  obtain ⟨gk0, gk1, gk2, gk3, gk4, gk5, gk6, gk7⟩ := vec8 Kg6.out
  go_wp2_with fail
  with_reducible refine (HV.out _ _ _ _ Og6.out Ogh6.out).mono ?_
  rintro e w7 ⟨rfl, b⟩
  try clear hzg
  clear gk0 gk1 gk2 gk3 gk4 gk5 gk6 gk7
  have Z7 := Lib.hid b.size
  have B7 := Lib.hid (below_then B6.out b)
  have Ou7 := Lib.hid (Ou6.out.below b Ouh6.out)
  have Ouh7 := Lib.hid (Nat.le_trans Ouh6.out b.size)
  clear Ou6 Ouh6
  have Ku7 := Lib.hid (blk_below b Ku6.out)
  clear Ku6
  have Og7 := Lib.hid (Og6.out.below b Ogh6.out)
  have Ogh7 := Lib.hid (Nat.le_trans Ogh6.out b.size)
  clear Og6 Ogh6
  have Kg7 := Lib.hid (blk_below b Kg6.out)
  clear Kg6
  clear b
  go_wp2_with fail
  with_reducible refine (IM.out _  ).mono ?_
  rintro e w8 ⟨y, rfl, ho, b⟩
  obtain ⟨hk, ha1, hn1, hm1, ha2, hn2, hm2, ha3, hn3, hm3, ha4, hn4, hm4, ha5, hn5, hm5, hc, he, rfl⟩ := ho.agg
  have Z8 := Lib.hid b.size
  have B8 := Lib.hid (below_then B7.out b)
  have Ou8 := Lib.hid (Ou7.out.below b Ouh7.out)
  have Ouh8 := Lib.hid (Nat.le_trans Ouh7.out b.size)
  clear Ou7 Ouh7
  have Ku8 := Lib.hid (blk_below b Ku7.out)
  clear Ku7
  have Og8 := Lib.hid (Og7.out.below b Ogh7.out)
  have Ogh8 := Lib.hid (Nat.le_trans Ogh7.out b.size)
  clear Og7 Ogh7
  have Kg8 := Lib.hid (blk_below b Kg7.out)
  clear Kg7
  clear b
  have Oh8 := Lib.hid (ho)
  have Ohh8 := Lib.hid ((Nat.le_refl _) : w8.heap.size ≤ w8.heap.size)
  clear ho
  obtain ⟨uk0, uk1, uk2, uk3, uk4, uk5, uk6, uk7⟩ := vec8 Ku8.out
  have hzu := (Array.getElem?_eq_some_iff.1 Ku8.out).1
  go_wp2_with fail
  obtain ⟨w9, hW⟩ : ∃ W, w8.alloc (.cells #[.int .i64 hk, .slice ha1 hn1 hm1, .slice ha2 hn2 hm2, .slice ha3 hn3 hm3, .slice ha4 hn4 hm4, .slice ha5 hn5 hm5, .int .i64 hc, .int .i64 he] 27) = W := ⟨_, rfl⟩
  have b : Below w8.heap.size w8 w9 := hW ▸ below1 w8 _
  have kb : w9.heap[w8.heap.size]? = some (.cells #[.int .i64 hk, .slice ha1 hn1 hm1, .slice ha2 hn2 hm2, .slice ha3 hn3 hm3, .slice ha4 hn4 hm4, .slice ha5 hn5 hm5, .int .i64 hc, .int .i64 he] 27 (0, 0)) := hW ▸ blk_new w8 _ rfl
  rw [hW]
  clear hW
  have Z9 := Lib.hid b.size
  have B9 := Lib.hid (below_then B8.out b)
  have Ou9 := Lib.hid (Ou8.out.below b Ouh8.out)
  have Ouh9 := Lib.hid (Nat.le_trans Ouh8.out b.size)
  clear Ou8 Ouh8
  have Ku9 := Lib.hid (blk_below b Ku8.out)
  clear Ku8
  have Og9 := Lib.hid (Og8.out.below b Ogh8.out)
  have Ogh9 := Lib.hid (Nat.le_trans Ogh8.out b.size)
  clear Og8 Ogh8
  have Kg9 := Lib.hid (blk_below b Kg8.out)
  clear Kg8
  have Oh9 := Lib.hid (Oh8.out.below b Ohh8.out)
  have Ohh9 := Lib.hid (Nat.le_trans Ohh8.out b.size)
  clear Oh8 Ohh8
  clear b
  have ZS9 := Lib.hid (Array.getElem?_eq_some_iff.1 kb).1
  have Kh9 := Lib.hid (kb)
  clear kb
  with_reducible refine (EQ.out _ _ _ (Oh9.out.vat Ohh9.out) (Ou9.out.vat Ouh9.out)).mono ?_
  rintro e w10 ⟨rfl, b⟩
  try clear hzu
  clear uk0 uk1 uk2 uk3 uk4 uk5 uk6 uk7
  have Z10 := Lib.hid b.size
  have B10 := Lib.hid (below_then B9.out b)
  have Ou10 := Lib.hid (Ou9.out.below b Ouh9.out)
  have Ouh10 := Lib.hid (Nat.le_trans Ouh9.out b.size)
  clear Ou9 Ouh9
  have Ku10 := Lib.hid (blk_below b Ku9.out)
  clear Ku9
  have Og10 := Lib.hid (Og9.out.below b Ogh9.out)
  have Ogh10 := Lib.hid (Nat.le_trans Ogh9.out b.size)
  clear Og9 Ogh9
  have Kg10 := Lib.hid (blk_below b Kg9.out)
  clear Kg9
  have Oh10 := Lib.hid (Oh9.out.below b Ohh9.out)
  have Ohh10 := Lib.hid (Nat.le_trans Ohh9.out b.size)
  clear Oh9 Ohh9
  have Kh10 := Lib.hid (blk_below b Kh9.out)
  clear Kh9
  clear b
  obtain ⟨gk0, gk1, gk2, gk3, gk4, gk5, gk6, gk7⟩ := vec8 Kg10.out
  go_wp2_with fail
  with_reducible refine (HV.out _ _ _ _ Og10.out Ogh10.out).mono ?_
  rintro e w11 ⟨rfl, b⟩
  try clear hzg
  clear gk0 gk1 gk2 gk3 gk4 gk5 gk6 gk7
  have Z11 := Lib.hid b.size
  have B11 := Lib.hid (below_then B10.out b)
  have Ou11 := Lib.hid (Ou10.out.below b Ouh10.out)
  have Ouh11 := Lib.hid (Nat.le_trans Ouh10.out b.size)
  clear Ou10 Ouh10
  have Ku11 := Lib.hid (blk_below b Ku10.out)
  clear Ku10
  have Og11 := Lib.hid (Og10.out.below b Ogh10.out)
  have Ogh11 := Lib.hid (Nat.le_trans Ogh10.out b.size)
  clear Og10 Ogh10
  have Kg11 := Lib.hid (blk_below b Kg10.out)
  clear Kg10
  have Oh11 := Lib.hid (Oh10.out.below b Ohh10.out)
  have Ohh11 := Lib.hid (Nat.le_trans Ohh10.out b.size)
  clear Oh10 Ohh10
  have Kh11 := Lib.hid (blk_below b Kh10.out)
  clear Kh10
  clear b
  go_wp2
  go_ret
  exact ⟨rfl, B11.out⟩

set_option maxRecDepth 100000 in
theorem lifted (os : Os) (started : os.Started) (H : Type) (enc : TypeId × Value → H) :
    ReturnsInHanded {} Try.checked os 6 .any (Rows.fnExactSequenceOfSpec.pre6 enc Try.prog Try.f6 Rows.fnExactSequenceOfRow.domain false) (Rows.fnExactSequenceOfSpec.post enc Try.prog Try.f6 false true false false) := by
  refine returnsInHanded_of_change (C := Try.checked) own started (by kernel_rfl) Try.func6
    (ChangeSpec.witness6 (enc := enc) (C := Try.checked) false ⟨#[], #[.int .i64 0, .int .i64 0], []⟩ 8 (by kernel_rfl) (by kernel_rfl) (by kernel_rfl) (by kernel_rfl)) ?_
  intro W base args ds gs before hval0 hW hcnd _
  have hval : ∀ (j : Nat) t v, Try.f6.params[j]? = some t → args[j]? = some v → Value.okWide Try.prog W .any base t v := hval0
  have hW' := hW
  obtain ⟨p, q, hA0, hV, rfl, hfz, hnd⟩ := hW
  have hA : DataW.TrodAll enc Try.prog W 0 (fun _ => true) true Try.f6.params.toList args.toList ds p := hA0
  rw [Try.params6] at hA hval
  obtain ⟨v0, vs0, d0, ds0, p0, q0, hargs0, rfl, rfl, h0, r0⟩ := trodAll_cons hA
  obtain ⟨v1, vs1, d1, ds1, p1, q1, hargs1, rfl, rfl, h1, r1⟩ := trodAll_cons r0
  obtain ⟨hnil, rfl, rfl⟩ := trodAll_nil r1
  have eargs : args.toList = [v0, v1] := by rw [hargs0, hargs1, hnil]
  obtain rfl : args = #[v0, v1] := Array.toList_inj.1 eargs
  obtain ⟨rfl, rfl⟩ := trodVars_none hV
  have k0 := h0
  have lt0 : ∀ x ∈ p0, x.block < W.heap.size := by obtain ⟨m, hm⟩ := k0; exact DataW.trod_lt m _ _ _ hm
  have k1 := h1
  have lt1 : ∀ x ∈ p1, x.block < W.heap.size := by obtain ⟨m, hm⟩ := k1; exact DataW.trod_lt m _ _ _ hm
  clear hA0 eargs hargs0 hargs1
  obtain ⟨a0, rfl, e0, ep0, wf0⟩ := open_int Try.underlying3 (hval 0 3 v0 rfl rfl) h0
  have i0 := bounds_i64 wf0
  obtain ⟨a1, rfl, e1, ep1, wf1⟩ := open_int Try.underlying3 (hval 1 3 v1 rfl rfl) h1
  have i1 := bounds_i64 wf1
  clear hval0
  refine (walk a0 i0 a1 i1 W).mono fun e W' ⟨he, bel⟩ => ?_
  subst he
  have kp0 := Below.trod laidOut (show Try.prog.readableRec 3 = true by kernel_rfl) (of_decide_eq_true (by kernel_rfl)) k0 bel lt0
  have kp1 := Below.trod laidOut (show Try.prog.readableRec 3 = true by kernel_rfl) (of_decide_eq_true (by kernel_rfl)) k1 bel lt1
  exact ⟨_, rfl, _, _, _, [], _, [], hW', trodAll_mk1 (shut_bool Try.underlying4 _), (trodAll_cons_mk kp0 (trodAll_cons_mk kp1 trodAll_mk0)), rfl, bel.frame _, fun h => by cases h⟩

theorem over : Rows.fnExactSequenceOfRow.holds Try.pinned (OpenSpec.ofChange Rows.fnExactSequenceOfSpec) :=
  OpenClaim.holds_of_wide 6 Try.f6 rfl rfl rfl rfl rfl rfl rfl ⟨rfl, rfl, rfl, rfl, rfl⟩ rfl rfl rfl rfl rfl (by kernel_rfl) Try.func6 (by kernel_rfl)
    (of_decide_eq_true (by kernel_rfl)) (by unfold Func.isWrapper; first | (rw [if_pos (by decide +kernel)]; kernel_rfl) | (rw [if_neg (by decide +kernel)]; exact ⟨rfl, rfl⟩))
    (fun os started H enc _ => lifted os started H enc)

theorem proved : Rows.FnExactSequenceOfSaid := over
end Go.Proofs.Yteigfhenbmhepaa.fnExactSequenceOf
