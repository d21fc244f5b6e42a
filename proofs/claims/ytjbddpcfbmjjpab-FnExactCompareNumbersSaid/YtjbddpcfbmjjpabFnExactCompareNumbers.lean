/- Called with any arguments (items, items), the law FnExactCompareNumbers returns true and leaves everything as it was. No condition. -/
import Derived.Test.YtjbddpcfbmjjpabRows
import Derived.Test.YtjbddpcfbmjjpabNumIn
import Derived.Test.YtjbddpcfbmjjpabNumSpec
import Derived.Test.YtjbddpcfbmjjpabNumCut
import Derived.Test.YtjbddpcfbmjjpabNumCmp
import Derived.Deep.RegionHeld3
import Derived.Deep.RegionWith
import Derived.Deep.DeepCutAuto
import Derived.WalkKit
import Derived.ProofKit
import Derived.OpenShut
import Derived.ShutString
import Derived.ChangeOld
import Derived.Carry
import Derived.Below
namespace Go.Proofs.Ytjbddpcfbmjjpab.fnExactCompareNumbers
open Go.ChangeShapes Go.WideShapes Go.ChangeAt Go.RowKit
open Go.ChangeMaps (open_string shut_string)
set_option linter.unusedVariables false

theorem laidOut : laidOutB Try.prog = true := by kernel_rfl
theorem own : ownKnob Try.prog.godebug = none := by kernel_rfl

set_option maxHeartbeats 8000000 in
set_option maxRecDepth 100000 in
theorem walk (x0 : It) (i0 : InB x0) (x1 : It) (i1 : InB x1) (w : World) :
    Calls Try.prog 6 #[.agg #[.int .i64 x0.n, .int .i64 x0.d, .string x0.t], .agg #[.int .i64 x1.n, .int .i64 x1.d, .string x1.t]] w fun e w' => e = .returned (.bool true) ∧ Below w.heap.size w w' := by
  have tx := i0.2.2
  have ty := i1.2.2
  unfold maxLen at tx ty
  clear i0 i1
  by_cases h1 : 1048576 < (x0.t.size : Int)
  · go_enter Try.func6, Try.ntmps6
    go_wp2_with fail
    refine (szNo x0.n x0.d x0.t 1048576 _ (by omega) h1 (by omega)).mono ?_
    rintro e w1 ⟨rfl, hb⟩
    have B1 := Lib.hid (below_then (below2 w _ _) hb)
    clear hb
    go_wp2
    go_ret
    exact ⟨rfl, B1.out⟩
  · have h1' : (x0.t.size : Int) ≤ 1048576 := by omega
    by_cases h2 : 1048576 - (x0.t.size : Int) < (x1.t.size : Int)
    · go_enter Try.func6, Try.ntmps6
      go_wp2_with fail
      refine (szYes x0.n x0.d x0.t 1048576 _ (by omega) h1').mono ?_
      rintro e w1 ⟨rfl, hb⟩
      obtain ⟨hc, hf⟩ := bcell hb
      have B1 := Lib.hid (below_then (below2 w _ _) hb)
      clear hb
      go_wp2_with fail
      refine (szNo x1.n x1.d x1.t _ _ (by omega) h2 (by omega)).mono ?_
      rintro e w2 ⟨rfl, hb⟩
      have B2 := Lib.hid (below_then B1.out hb)
      clear hb
      go_wp2
      go_ret
      exact ⟨rfl, B2.out⟩
    · go_enter Try.func6, Try.ntmps6
      go_wp2_with fail
      refine (szYes x0.n x0.d x0.t 1048576 _ (by omega) h1').mono ?_
      rintro e w1 ⟨rfl, hb⟩
      obtain ⟨hc, hf⟩ := bcell hb
      have W1 := Lib.hid hb
      have B1 := Lib.hid (below_then (below2 w _ _) hb)
      clear hb
      go_wp2_with fail
      refine (szYes x1.n x1.d x1.t _ _ (by omega) (by omega)).mono ?_
      rintro e w2 ⟨rfl, hb⟩
      have W2 := Lib.hid (W1.out.trans (hb.mono W1.out.size))
      have B2 := Lib.hid (below_then B1.out hb)
      have GX := Lib.hid (blk_below (g := w.heap.size) W2.out (blk_old (blk_new _ _ rfl)))
      have GY := Lib.hid (blk_below (g := w.heap.size + 1) W2.out (blk_new _ _ (by simp)))
      have hz1 : w.heap.size + 1 < w2.heap.size := by have := W2.out.size; simp at this; omega
      clear hc hf hb
      obtain ⟨z, hz⟩ : ∃ z, cmpI x0 x1 = z := ⟨_, rfl⟩
      have CS := Lib.hid (hz ▸ specCmp x0 x1)
      have CI := Lib.hid (hz ▸ implCmp x0 x1)
      have HX : Hid (x0.t.size ≤ 9223372036854775807) := Lib.hid (by omega)
      have HY : Hid (x1.t.size ≤ 9223372036854775807) := Lib.hid (by omega)
      have h2' : (x1.t.size : Int) ≤ 1048576 - (x0.t.size : Int) := by omega
      clear hz h1 h2 tx ty
      go_wp2_with fail
      have BS := Lib.hid (Below.refl w2.heap.size w2)
      go_region_held3 (fun w' => w'.cell? ⟨w.heap.size, 0, none⟩ = some (.int .i64 x0.n) ∧ w'.cell? ⟨w.heap.size, 1, none⟩ = some (.int .i64 x0.d) ∧ w'.cell? ⟨w.heap.size, 2, none⟩ = some (.string x0.t) ∧ w'.cell? ⟨w.heap.size + 1, 0, none⟩ = some (.int .i64 x1.n) ∧ w'.cell? ⟨w.heap.size + 1, 1, none⟩ = some (.int .i64 x1.d) ∧ w'.cell? ⟨w.heap.size + 1, 2, none⟩ = some (.string x1.t)) (first | with_reducible exact six (blk_drew GX.out) (blk_drew GY.out) | with_reducible exact six GX.out GY.out | with_reducible exact six (blk_old GX.out) (blk_old GY.out) | with_reducible exact six (blk_old (blk_drew GX.out)) (blk_old (blk_drew GY.out)) | with_reducible exact six (blk_drew (blk_old GX.out)) (blk_drew (blk_old GY.out)) | ((with_reducible refine six (blk_set3 GX.out ?_) (blk_set3 GY.out ?_)) <;> omega)) (first
        | (go_at_call_of 9 (Value.int IntKind.i64 x0.n); refine (toItemAny x0.n x0.d x0.t _).mono ?_; rintro e w3 ⟨rfl, hb⟩; have GX := Lib.hid (blk_step hb (by first | with_reducible exact .same | with_reducible exact .drew | with_reducible exact .alloc _ | with_reducible exact .both _ | with_reducible exact .swap _) GX.out); have GY := Lib.hid (blk_step hb (by first | with_reducible exact .same | with_reducible exact .drew | with_reducible exact .alloc _ | with_reducible exact .both _ | with_reducible exact .swap _) GY.out); have BS := Lib.hid (below_step BS.out (by first | with_reducible exact .same | with_reducible exact .drew | with_reducible exact .alloc _ | with_reducible exact .both _ | with_reducible exact .swap _) hb BS.out.size); have hs := BS.out.size; clear hb)
        | (go_at_call_of 9 (Value.int IntKind.i64 x1.n); refine (toItemAny x1.n x1.d x1.t _).mono ?_; rintro e w4 ⟨rfl, hb⟩; have GX := Lib.hid (blk_step hb (by first | with_reducible exact .same | with_reducible exact .drew | with_reducible exact .alloc _ | with_reducible exact .both _ | with_reducible exact .swap _) GX.out); have GY := Lib.hid (blk_step hb (by first | with_reducible exact .same | with_reducible exact .drew | with_reducible exact .alloc _ | with_reducible exact .both _ | with_reducible exact .swap _) GY.out); have BS := Lib.hid (below_step BS.out (by first | with_reducible exact .same | with_reducible exact .drew | with_reducible exact .alloc _ | with_reducible exact .both _ | with_reducible exact .swap _) hb BS.out.size); have hs := BS.out.size; clear hb)
        | (go_at_call 16; refine (CS.out _ HX.out HY.out).mono ?_; rintro e w5 ⟨rfl, hb⟩; have GX := Lib.hid (blk_step hb (by first | with_reducible exact .same | with_reducible exact .drew | with_reducible exact .alloc _ | with_reducible exact .both _ | with_reducible exact .swap _) GX.out); have GY := Lib.hid (blk_step hb (by first | with_reducible exact .same | with_reducible exact .drew | with_reducible exact .alloc _ | with_reducible exact .both _ | with_reducible exact .swap _) GY.out); have BS := Lib.hid (below_step BS.out (by first | with_reducible exact .same | with_reducible exact .drew | with_reducible exact .alloc _ | with_reducible exact .both _ | with_reducible exact .swap _) hb BS.out.size); have hs := BS.out.size; clear hb))
      all_goals (go_wp2_with fail)
      all_goals go_region_held3 (fun w' => w'.cell? ⟨w.heap.size, 0, none⟩ = some (.int .i64 x0.n) ∧ w'.cell? ⟨w.heap.size, 1, none⟩ = some (.int .i64 x0.d) ∧ w'.cell? ⟨w.heap.size, 2, none⟩ = some (.string x0.t) ∧ w'.cell? ⟨w.heap.size + 1, 0, none⟩ = some (.int .i64 x1.n) ∧ w'.cell? ⟨w.heap.size + 1, 1, none⟩ = some (.int .i64 x1.d) ∧ w'.cell? ⟨w.heap.size + 1, 2, none⟩ = some (.string x1.t)) (first | with_reducible exact six (blk_drew GX.out) (blk_drew GY.out) | with_reducible exact six GX.out GY.out | with_reducible exact six (blk_old GX.out) (blk_old GY.out) | with_reducible exact six (blk_old (blk_drew GX.out)) (blk_old (blk_drew GY.out)) | with_reducible exact six (blk_drew (blk_old GX.out)) (blk_drew (blk_old GY.out)) | ((with_reducible refine six (blk_set3 GX.out ?_) (blk_set3 GY.out ?_)) <;> omega)) (first
        | (go_at_call_of 9 (Value.int IntKind.i64 x0.n); refine (toItemAny x0.n x0.d x0.t _).mono ?_; rintro e v3 ⟨rfl, hb⟩; have GX := Lib.hid (blk_step hb (by first | with_reducible exact .same | with_reducible exact .drew | with_reducible exact .alloc _ | with_reducible exact .both _ | with_reducible exact .swap _) GX.out); have GY := Lib.hid (blk_step hb (by first | with_reducible exact .same | with_reducible exact .drew | with_reducible exact .alloc _ | with_reducible exact .both _ | with_reducible exact .swap _) GY.out); have BS := Lib.hid (below_step BS.out (by first | with_reducible exact .same | with_reducible exact .drew | with_reducible exact .alloc _ | with_reducible exact .both _ | with_reducible exact .swap _) hb BS.out.size); have hs := BS.out.size; clear hb)
        | (go_at_call_of 9 (Value.int IntKind.i64 x1.n); refine (toItemAny x1.n x1.d x1.t _).mono ?_; rintro e v4 ⟨rfl, hb⟩; have GX := Lib.hid (blk_step hb (by first | with_reducible exact .same | with_reducible exact .drew | with_reducible exact .alloc _ | with_reducible exact .both _ | with_reducible exact .swap _) GX.out); have GY := Lib.hid (blk_step hb (by first | with_reducible exact .same | with_reducible exact .drew | with_reducible exact .alloc _ | with_reducible exact .both _ | with_reducible exact .swap _) GY.out); have BS := Lib.hid (below_step BS.out (by first | with_reducible exact .same | with_reducible exact .drew | with_reducible exact .alloc _ | with_reducible exact .both _ | with_reducible exact .swap _) hb BS.out.size); have hs := BS.out.size; clear hb)
        | (go_at_call 17; refine (CI.out _ HX.out HY.out).mono ?_; rintro e v5 ⟨rfl, hb⟩; have GX := Lib.hid (blk_step hb (by first | with_reducible exact .same | with_reducible exact .drew | with_reducible exact .alloc _ | with_reducible exact .both _ | with_reducible exact .swap _) GX.out); have GY := Lib.hid (blk_step hb (by first | with_reducible exact .same | with_reducible exact .drew | with_reducible exact .alloc _ | with_reducible exact .both _ | with_reducible exact .swap _) GY.out); have BS := Lib.hid (below_step BS.out (by first | with_reducible exact .same | with_reducible exact .drew | with_reducible exact .alloc _ | with_reducible exact .both _ | with_reducible exact .swap _) hb BS.out.size); have hs := BS.out.size; clear hb))
      all_goals
        go_wp2
        go_ret
        exact ⟨rfl, below_then B2.out BS.out⟩

set_option maxRecDepth 100000 in
theorem lifted (os : Os) (started : os.Started) (H : Type) (enc : TypeId × Value → H) :
    ReturnsInHanded {} Try.checked os 6 .any (Rows.fnExactCompareNumbersSpec.pre6 enc Try.prog Try.f6 Rows.fnExactCompareNumbersRow.domain false) (Rows.fnExactCompareNumbersSpec.post enc Try.prog Try.f6 false true false false) := by
  refine returnsInHanded_of_change (C := Try.checked) own started (by kernel_rfl) Try.func6
    (ChangeSpec.witness6 (enc := enc) (C := Try.checked) false ⟨#[], #[.agg #[.int .i64 0, .int .i64 0, .string ByteArray.empty], .agg #[.int .i64 0, .int .i64 0, .string ByteArray.empty]], []⟩ 8 (by kernel_rfl) (by kernel_rfl) (by kernel_rfl) (by kernel_rfl)) ?_
  intro W base args ds gs before hval0 hW hcnd _
  have hval : ∀ (j : Nat) t v, Try.f6.params[j]? = some t → args[j]? = some v → Value.okWide Try.prog W .any base t v := hval0
  have hW' := hW
  obtain ⟨p, q, hA0, hV, rfl, hfz, hnd⟩ := hW
  have hA : DataW.TrodAll enc Try.prog W 0 (fun _ => true) true Try.f6.params.toList args.toList ds p := hA0
  rw [Try.params6] at hA hval
  obtain ⟨v0, vs0, d0, ds0, p0, q0, hargs0, rfl, rfl, h0, r0⟩ := trodAll_cons hA
  obtain ⟨v1, vs1, d1, ds1, p1, q1, hargs1, rfl, rfl, h1, r1⟩ := trodAll_cons r0
  obtain ⟨hnil, rfl, rfl⟩ := trodAll_nil r1
  have eargs : args.toList = [v0, v1] := by rw [hargs0, hargs1, hnil]
  obtain rfl : args = #[v0, v1] := Array.toList_inj.1 eargs
  obtain ⟨rfl, rfl⟩ := trodVars_none hV
  have k0 := h0
  have lt0 : ∀ x ∈ p0, x.block < W.heap.size := by obtain ⟨m, hm⟩ := k0; exact DataW.trod_lt m _ _ _ hm
  have k1 := h1
  have lt1 : ∀ x ∈ p1, x.block < W.heap.size := by obtain ⟨m, hm⟩ := k1; exact DataW.trod_lt m _ _ _ hm
  clear hA0 eargs hargs0 hargs1
  obtain ⟨x0, rfl, i0⟩ := item_in (hval 0 23 v0 rfl rfl) h0
  obtain ⟨x1, rfl, i1⟩ := item_in (hval 1 23 v1 rfl rfl) h1
  clear hval0
  refine (walk x0 i0 x1 i1 W).mono fun e W' ⟨he, bel⟩ => ?_
  subst he
  have kp0 := Below.trod laidOut (show Try.prog.readableRec 23 = true by kernel_rfl) (of_decide_eq_true (by kernel_rfl)) k0 bel lt0
  have kp1 := Below.trod laidOut (show Try.prog.readableRec 23 = true by kernel_rfl) (of_decide_eq_true (by kernel_rfl)) k1 bel lt1
  exact ⟨_, rfl, _, _, _, [], _, [], hW', trodAll_mk1 (shut_bool Try.underlying4 _), (trodAll_cons_mk kp0 (trodAll_cons_mk kp1 trodAll_mk0)), rfl, bel.frame _, fun h => by cases h⟩

theorem over : Rows.fnExactCompareNumbersRow.holds Try.pinned (OpenSpec.ofChange Rows.fnExactCompareNumbersSpec) :=
  OpenClaim.holds_of_wide 6 Try.f6 rfl rfl rfl rfl rfl rfl rfl ⟨rfl, rfl, rfl, rfl, rfl⟩ rfl rfl rfl rfl rfl (by kernel_rfl) Try.func6 (by kernel_rfl)
    (of_decide_eq_true (by kernel_rfl)) (by unfold Func.isWrapper; first | (rw [if_pos (by decide +kernel)]; kernel_rfl) | (rw [if_neg (by decide +kernel)]; exact ⟨rfl, rfl⟩))
    (fun os started H enc _ => lifted os started H enc)

theorem proved : Rows.FnExactCompareNumbersSaid := over
end Go.Proofs.Ytjbddpcfbmjjpab.fnExactCompareNumbers
