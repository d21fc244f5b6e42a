/- Called with any arguments (items), the law FnExactIsNumber returns true and leaves everything as it was. No condition. -/
import Derived.Test.YtjbddpcfbmjjpaaRows
import Derived.Test.YtjbddpcfbmjjpaaNumIn
import Derived.Test.YtjbddpcfbmjjpaaNumMake
import Derived.WalkKit
import Derived.ProofKit
import Derived.OpenShut
import Derived.ShutString
import Derived.ChangeOld
import Derived.Carry
import Derived.Below
namespace Go.Proofs.Ytjbddpcfbmjjpaa.fnExactIsNumber
open Go.ChangeShapes Go.WideShapes Go.ChangeAt Go.RowKit
open Go.ChangeMaps (open_string shut_string)
set_option linter.unusedVariables false

theorem laidOut : laidOutB Try.prog = true := by kernel_rfl
theorem own : ownKnob Try.prog.godebug = none := by kernel_rfl

set_option maxHeartbeats 1000000 in
set_option maxRecDepth 100000 in
theorem walk (x0 : It) (i0 : InB x0) (w : World) :
    Calls Try.prog 6 #[.agg #[.int .i64 x0.n, .int .i64 x0.d, .string x0.t]] w fun e w' => e = .returned (.bool true) ∧ Below w.heap.size w w' := by
  have tx := i0.2.2
  unfold maxLen at tx
  clear i0
  by_cases h1 : 1048576 < (x0.t.size : Int)
  · go_enter Try.func6, Try.ntmps6
    go_wp2_with fail
    refine (szNo x0.n x0.d x0.t 1048576 _ (by omega) h1 (by omega)).mono ?_
    rintro e w1 ⟨rfl, hb⟩
    have B1 := Lib.hid (below_then (below1 w _) hb)
    clear hb
    go_wp2
    go_ret
    exact ⟨rfl, B1.out⟩
  · have h1' : (x0.t.size : Int) ≤ 1048576 := by omega
    go_enter Try.func6, Try.ntmps6
    go_wp2_with fail
    refine (szYes x0.n x0.d x0.t 1048576 _ (by omega) h1').mono ?_
    rintro e w1 ⟨rfl, hb⟩
    obtain ⟨hc, hf⟩ := bcell hb
    have W1 := Lib.hid hb
    have B1 := Lib.hid (below_then (below1 w _) hb)
    have G1 := Lib.hid (blk_below (g := w.heap.size) hb (blk_new _ _ rfl))
    clear hb
    go_wp2_with fail
    refine (toItemAny x0.n x0.d x0.t _).mono ?_
    rintro e w2 ⟨rfl, hb⟩
    have B2 := Lib.hid (below_then B1.out hb)
    have G2 := Lib.hid (blk_below hb G1.out)
    clear hc hf hb
    go_wp2_with fail
    refine (specIsNum x0.n x0.d x0.t _ (by omega)).mono ?_
    rintro e w3 ⟨rfl, hb⟩
    have B3 := Lib.hid (below_then B2.out hb)
    have G3 := Lib.hid (blk_below hb G2.out)
    clear hb
    obtain ⟨⟨c0, c1, c2⟩, f0, f1, f2⟩ := three G3.out
    go_wp2_with fail
    refine (toItemAny x0.n x0.d x0.t _).mono ?_
    rintro e w4 ⟨rfl, hb⟩
    have B4 := Lib.hid (below_then B3.out hb)
    clear c0 c1 c2 f0 f1 f2 hb
    go_wp2_with fail
    refine (implIsNum x0.n x0.d x0.t _ (by omega)).mono ?_
    rintro e w5 ⟨rfl, hb⟩
    have B5 := Lib.hid (below_then B4.out hb)
    clear hb
    go_wp2
    go_ret
    exact ⟨by simp, B5.out⟩

set_option maxRecDepth 100000 in
theorem lifted (os : Os) (started : os.Started) (H : Type) (enc : TypeId × Value → H) :
    ReturnsInHanded {} Try.checked os 6 .any (Rows.fnExactIsNumberSpec.pre6 enc Try.prog Try.f6 Rows.fnExactIsNumberRow.domain false) (Rows.fnExactIsNumberSpec.post enc Try.prog Try.f6 false true false false) := by
  refine returnsInHanded_of_change (C := Try.checked) own started (by kernel_rfl) Try.func6
    (ChangeSpec.witness6 (enc := enc) (C := Try.checked) false ⟨#[], #[.agg #[.int .i64 0, .int .i64 0, .string ByteArray.empty]], []⟩ 8 (by kernel_rfl) (by kernel_rfl) (by kernel_rfl) (by kernel_rfl)) ?_
  intro W base args ds gs before hval0 hW hcnd _
  have hval : ∀ (j : Nat) t v, Try.f6.params[j]? = some t → args[j]? = some v → Value.okWide Try.prog W .any base t v := hval0
  have hW' := hW
  obtain ⟨p, q, hA0, hV, rfl, hfz, hnd⟩ := hW
  have hA : DataW.TrodAll enc Try.prog W 0 (fun _ => true) true Try.f6.params.toList args.toList ds p := hA0
  rw [Try.params6] at hA hval
  obtain ⟨v0, vs0, d0, ds0, p0, q0, hargs0, rfl, rfl, h0, r0⟩ := trodAll_cons hA
  obtain ⟨hnil, rfl, rfl⟩ := trodAll_nil r0
  have eargs : args.toList = [v0] := by rw [hargs0, hnil]
  obtain rfl : args = #[v0] := Array.toList_inj.1 eargs
  obtain ⟨rfl, rfl⟩ := trodVars_none hV
  have k0 := h0
  have lt0 : ∀ x ∈ p0, x.block < W.heap.size := by obtain ⟨m, hm⟩ := k0; exact DataW.trod_lt m _ _ _ hm
  clear hA0 eargs hargs0
  obtain ⟨x0, rfl, i0⟩ := item_in (hval 0 36 v0 rfl rfl) h0
  clear hval0
  refine (walk x0 i0 W).mono fun e W' ⟨he, bel⟩ => ?_
  subst he
  have kp0 := Below.trod laidOut (show Try.prog.readableRec 36 = true by kernel_rfl) (of_decide_eq_true (by kernel_rfl)) k0 bel lt0
  exact ⟨_, rfl, _, _, _, [], _, [], hW', trodAll_mk1 (shut_bool Try.underlying4 _), (trodAll_cons_mk kp0 trodAll_mk0), rfl, bel.frame _, fun h => by cases h⟩

theorem over : Rows.fnExactIsNumberRow.holds Try.pinned (OpenSpec.ofChange Rows.fnExactIsNumberSpec) :=
  OpenClaim.holds_of_wide 6 Try.f6 rfl rfl rfl rfl rfl rfl rfl ⟨rfl, rfl, rfl, rfl, rfl⟩ rfl rfl rfl rfl rfl (by kernel_rfl) Try.func6 (by kernel_rfl)
    (of_decide_eq_true (by kernel_rfl)) (by unfold Func.isWrapper; first | (rw [if_pos (by decide +kernel)]; kernel_rfl) | (rw [if_neg (by decide +kernel)]; exact ⟨rfl, rfl⟩))
    (fun os started H enc _ => lifted os started H enc)

theorem proved : Rows.FnExactIsNumberSaid := over
end Go.Proofs.Ytjbddpcfbmjjpaa.fnExactIsNumber
