/- Called with any arguments (slices of ints), the law FnExactAllLogical returns true and leaves everything as it was. No condition. -/
import Derived.Test.YtmglolpiekbnpaaRows
import Derived.Test.YtmglolpiekbnpaaLogList
import Derived.WalkKit
import Derived.ProofKit
import Derived.OpenShut
import Derived.ShutString
import Derived.ChangeOld
import Derived.Carry
import Derived.Below
namespace Go.Proofs.Ytmglolpiekbnpaa.fnExactAllLogical
open Go.ChangeShapes Go.WideShapes Go.ChangeAt Go.RowKit
open Go.ChangeMaps (open_string shut_string)
set_option linter.unusedVariables false

theorem laidOut : laidOutB Try.prog = true := by kernel_rfl
theorem own : ownKnob Try.prog.godebug = none := by kernel_rfl

set_option maxHeartbeats 1000000 in
set_option maxRecDepth 100000 in
theorem walk (a0 : Option Addr) (n0 cap0 : Nat) (f0 : Nat → Int) (w : World) (hs0 : IntsAt w.heap.size w a0 n0 f0) (hn0 : n0 ≤ maxLen) :
    Calls Try.prog 9 #[.slice a0 n0 cap0] w fun e w' => e = .returned (.bool true) ∧ Below w.heap.size w w' := by
  have S := Lib.hid hs0
  clear hs0
  by_cases h1 : 1048576 < (n0 : Int)
  · go_enter Try.func9, Try.ntmps9
    go_wp2
    go_ret
    exact ⟨rfl, Below.refl _ _⟩
  · have hn1 : n0 ≤ 1048576 := by omega
    obtain ⟨v, hv⟩ : ∃ v, allF f0 n0 = v := ⟨_, rfl⟩
    have SA := Lib.hid (fun (a : Option Addr) (B : Nat) (w : World) (h : IntsAt B w a n0 f0) => specAll a n0 n0 f0 B w h (by omega))
    have IA := Lib.hid (fun (a : Option Addr) (B : Nat) (w : World) (h : IntsAt B w a n0 f0) => implAll a n0 n0 f0 B w h (by omega))
    simp only [hv] at SA IA
    clear hv hn0
    go_enter Try.func9, Try.ntmps9
    go_wp2_with fail
    refine (toInts a0 n0 cap0 f0 _ S.out hn1).mono ?_
    rintro e w1 ⟨rfl, fl, hb⟩
    have I1 := Lib.hid fl.ints
    have B1 := Lib.hid hb
    clear fl hb
    go_wp2_with fail
    refine (SA.out _ _ _ I1.out).mono ?_
    rintro e w' ⟨rfl, rfl⟩
    go_wp2_with fail
    refine (toInts a0 n0 cap0 f0 _ ((S.out.below B1.out).mono B1.out.size) hn1).mono ?_
    rintro e w2 ⟨rfl, fl, hb⟩
    have I2 := Lib.hid fl.ints
    have B2 := Lib.hid (B1.out.trans (hb.mono B1.out.size))
    clear fl hb I1
    go_wp2_with fail
    refine (IA.out _ _ _ I2.out).mono ?_
    rintro e w' ⟨rfl, rfl⟩
    go_wp2_with fail
    refine (toInts a0 n0 cap0 f0 _ ((S.out.below B2.out).mono B2.out.size) hn1).mono ?_
    rintro e w3 ⟨rfl, fl, hb⟩
    have I3 := Lib.hid fl.ints
    have J2 := Lib.hid ((I2.out.below hb).mono hb.size)
    have B3 := Lib.hid (B2.out.trans (hb.mono B2.out.size))
    clear fl hb I2
    go_wp2_with fail
    refine (eqInts _ _ n0 n0 n0 f0 f0 _ _ J2.out I3.out (by omega) (fun _ _ => rfl)).mono ?_
    rintro e w4 ⟨rfl, m, rfl⟩
    go_wp2
    go_ret
    exact ⟨rfl, below_drewN B3.out m⟩

set_option maxRecDepth 100000 in
theorem lifted (os : Os) (started : os.Started) (H : Type) (enc : TypeId × Value → H) :
    ReturnsInHanded {} Try.checked os 9 .any (Rows.fnExactAllLogicalSpec.pre6 enc Try.prog Try.f9 Rows.fnExactAllLogicalRow.domain false) (Rows.fnExactAllLogicalSpec.post enc Try.prog Try.f9 false true false false) := by
  refine returnsInHanded_of_change (C := Try.checked) own started (by kernel_rfl) Try.func9
    (ChangeSpec.witness6 (enc := enc) (C := Try.checked) false ⟨#[], #[.slice none 0 0], []⟩ 8 (by kernel_rfl) (by kernel_rfl) (by kernel_rfl) (by kernel_rfl)) ?_
  intro W base args ds gs before hval0 hW hcnd _
  have hval : ∀ (j : Nat) t v, Try.f9.params[j]? = some t → args[j]? = some v → Value.okWide Try.prog W .any base t v := hval0
  have hW' := hW
  obtain ⟨p, q, hA0, hV, rfl, hfz, hnd⟩ := hW
  have hA : DataW.TrodAll enc Try.prog W 0 (fun _ => true) true Try.f9.params.toList args.toList ds p := hA0
  rw [Try.params9] at hA hval
  obtain ⟨v0, vs0, d0, ds0, p0, q0, hargs0, rfl, rfl, h0, r0⟩ := trodAll_cons hA
  obtain ⟨hnil, rfl, rfl⟩ := trodAll_nil r0
  have eargs : args.toList = [v0] := by rw [hargs0, hnil]
  obtain rfl : args = #[v0] := Array.toList_inj.1 eargs
  obtain ⟨rfl, rfl⟩ := trodVars_none hV
  have k0 := h0
  have lt0 : ∀ x ∈ p0, x.block < W.heap.size := by obtain ⟨m, hm⟩ := k0; exact DataW.trod_lt m _ _ _ hm
  clear hA0 eargs hargs0
  obtain ⟨a0, n0, cap0, rfl⟩ := okWide_slice Try.underlying33 (hval 0 33 v0 rfl rfl)
  obtain ⟨f0, hs0, hn0⟩ : ∃ f : Nat → Int, IntsAt W.heap.size W a0 n0 f ∧ n0 ≤ maxLen := by
    obtain ⟨fuel, hf⟩ := h0
    exact ints_in hf
  clear hval0
  refine (walk a0 n0 cap0 f0 W hs0 hn0).mono fun e W' ⟨he, bel⟩ => ?_
  subst he
  have kp0 := Below.trod laidOut (show Try.prog.readableRec 33 = true by kernel_rfl) (of_decide_eq_true (by kernel_rfl)) k0 bel lt0
  exact ⟨_, rfl, _, _, _, [], _, [], hW', trodAll_mk1 (shut_bool Try.underlying4 _), (trodAll_cons_mk kp0 trodAll_mk0), rfl, bel.frame _, fun h => by cases h⟩

theorem over : Rows.fnExactAllLogicalRow.holds Try.pinned (OpenSpec.ofChange Rows.fnExactAllLogicalSpec) :=
  OpenClaim.holds_of_wide 9 Try.f9 rfl rfl rfl rfl rfl rfl rfl ⟨rfl, rfl, rfl, rfl, rfl⟩ rfl rfl rfl rfl rfl (by kernel_rfl) Try.func9 (by kernel_rfl)
    (of_decide_eq_true (by kernel_rfl)) (by unfold Func.isWrapper; first | (rw [if_pos (by decide +kernel)]; kernel_rfl) | (rw [if_neg (by decide +kernel)]; exact ⟨rfl, rfl⟩))
    (fun os started H enc _ => lifted os started H enc)

theorem proved : Rows.FnExactAllLogicalSaid := over
end Go.Proofs.Ytmglolpiekbnpaa.fnExactAllLogical
