/- Called with any list of strings, the law FnExactJoinFields returns true and leaves everything as it was. Condition: the listed package-level variables read as the program's own initialisers lay them (the card ties them). -/
import Derived.Test.YtogkbfafdlbodaaDoorRows
import Derived.Test.YtogkbfafdlbodaaDoorCards
import Derived.Test.YtogkbfafdlbodaaDoorTie
import Derived.Test.YtogkbfafdlbodaaDoorLaid
import Derived.Test.YtogkbfafdlbodaaDoorJoin
import Derived.WalkKit
import Derived.ProofKit
import Derived.OpenShut
import Derived.ShutString
import Derived.ChangeOld
import Derived.Below
import Derived.LaidMore
import Derived.Deep.DeepHandedRow
import Derived.Stop.Joined
import Derived.SevenTiedAt
namespace Go.Proofs.YtogkbfafdlbodaaDoor.fnExactJoinFields
open Go.ChangeShapes Go.WideShapes Go.ChangeAt Go.RowKit
open Go.ChangeMaps (open_string shut_string)
set_option linter.unusedVariables false

theorem laidOut : laidOutB Tryd.prog = true := by kernel_rfl
theorem own : ownKnob Tryd.prog.godebug = none := by kernel_rfl

set_option maxHeartbeats 1000000 in
theorem walk (a0 : Option Addr) (n0 cap0 : Nat) (f0 : Nat → ByteArray) (w : World) (hs0 : StrsAt w.heap.size w a0 n0 f0) (hn0 : n0 ≤ maxLen) (hf0 : ∀ i, (f0 i).size ≤ maxLen) (tab : Lib.TabIs Tryd.prog w "internal/strconv.uint64pow10" .u64 Lib.pow10Tab) (hsh : w.ShapedOpen Tryd.prog) :
    Calls Tryd.prog 6 #[.slice a0 n0 cap0] w fun e w' => e = .returned (.bool true) ∧ Below w.heap.size w w' := by
  have T := Lib.hid tab
  have S := Lib.hid hs0
  have Z := Lib.hid hf0
  unfold maxLen at hn0 hf0
  have hsz := szStrs a0 n0 cap0 1048576 f0 w.heap.size w S.out hn0 (by omega) (by omega) (fun i _ => hf0 i)
  clear tab hsh hs0 hf0
  by_cases hR : (n0 : Int) + sumF f0 n0 ≤ 1048576
  · have hr : szR 1048576 n0 f0 = 1048576 - n0 - sumF f0 n0 := by unfold szR; rw [if_pos hR]
    rw [hr] at hsz
    have SZ := Lib.hid hsz
    clear hr hsz
    obtain ⟨f, hff, hf⟩ : ∃ f : Nat → ByteArray, (∀ i, i < n0 → f0 i = f i) ∧ ∀ i, (f i).size ≤ 1048576 :=
      ⟨fun i => if i < n0 then f0 i else ByteArray.empty, fun i hi => by simp [hi], fun i => by
        by_cases hi : i < n0
        · have := sumF_at f0 hi; simp only [hi, if_true]; omega
        · simp [hi]⟩
    have hsum : sumF f n0 = sumF f0 n0 := by
      have : ∀ k, k ≤ n0 → sumF f k = sumF f0 k := by
        intro k
        induction k with
        | zero => intro _; rfl
        | succ k ih => intro h; simp only [sumF]; rw [ih (by omega), hff k (by omega)]
      exact this n0 (Nat.le_refl _)
    have SF : Hid (StrsAt w.heap.size w a0 n0 f) := Lib.hid (fun i hi => by rw [← hff i hi]; exact S.out i hi)
    have F := Lib.hid hf
    have FF := Lib.hid hff
    have hs1 : sumF f n0 ≤ 1048576 := by omega
    clear hf hff hsum
    go_enter Tryd.func6, Tryd.ntmps6
    go_wp2_with fail
    refine SZ.out.mono ?_
    rintro e w' ⟨rfl, rfl⟩
    go_wp2_with fail
    refine (toStrs a0 n0 cap0 f _ SF.out (by omega)).mono ?_
    rintro e w1 ⟨rfl, hF1, hb1⟩
    have B1 := Lib.hid hb1
    have R1 := Lib.hid hF1
    clear hb1 hF1
    go_wp2_with fail
    refine (specJoin _ n0 n0 f _ w1 R1.out.strs (by omega) F.out hs1).mono ?_
    rintro e w2 ⟨rfl, hD2⟩
    have B2 := Lib.hid (B1.out.trans (hD2.below _))
    clear hD2
    go_wp2_with fail
    refine (toStrs a0 n0 cap0 f _ ((SF.out.below B2.out).mono B2.out.size) (by omega)).mono ?_
    rintro e w3 ⟨rfl, hF3, hb3⟩
    have B3 := Lib.hid (B2.out.trans (hb3.mono B2.out.size))
    have R3 := Lib.hid hF3
    clear hb3 hF3
    go_wp2_with fail
    refine (implJoin _ n0 n0 f w3 R3.out.strs (by omega) F.out hs1 (tab_below T.out B3.out)).mono ?_
    rintro e w4 ⟨rfl, hb4⟩
    have B4 := Lib.hid (B3.out.trans (hb4.mono B3.out.size))
    have S4 := Lib.hid ((R3.out.strs).below hb4)
    have L4 := Lib.hid hb4.size
    clear hb4
    go_wp2_with fail
    refine (toStrs a0 n0 cap0 f _ ((SF.out.below B4.out).mono B4.out.size) (by omega)).mono ?_
    rintro e w5 ⟨rfl, hF5, hb5⟩
    have B5 := Lib.hid (B4.out.trans (hb5.mono B4.out.size))
    have S5 := Lib.hid (((S4.out.mono L4.out).below hb5).mono hb5.size)
    have R5 := Lib.hid hF5
    clear hb5 hF5
    go_wp2_with fail
    refine (eqStrs _ _ n0 n0 n0 f f w5.heap.size w5 S5.out R5.out.strs hn0 (fun _ _ => rfl)).mono ?_
    rintro e w6 ⟨rfl, m, rfl⟩
    go_wp2_with fail
    go_ret
    exact ⟨rfl, below_drewN B5.out m⟩
  · have hr : szR 1048576 n0 f0 = -1 := by unfold szR; rw [if_neg hR]
    rw [hr] at hsz
    have SZ := Lib.hid hsz
    clear hr hsz
    go_enter Tryd.func6, Tryd.ntmps6
    go_wp2_with fail
    refine SZ.out.mono ?_
    rintro e w' ⟨rfl, rfl⟩
    go_wp2_with fail
    go_ret
    exact ⟨rfl, Below.refl _ _⟩

set_option maxRecDepth 100000 in
theorem contract (H : Type) (enc : TypeId × Value → H) (W : World) (base : Nat) (args : Array Value) (ds gs : List (DataW H)) (before : List MemPlace)
    (hval : ∀ (j : Nat) t v, Tryd.f6.params[j]? = some t → args[j]? = some v → Value.okWide Tryd.prog W .any base t v)
    (hW : DataW.Whole enc Tryd.prog Tryd.f6.params.toList Rows.fnExactJoinFieldsSpec.vars false W args.toList ds gs before) (hL : laidMetH Tryd.prog Rows.fnExactJoinFieldsRow.laid W) (hsh : W.ShapedOpen Tryd.prog) :
    Calls Tryd.prog 6 args W fun e W' => ∃ v, e = .returned v ∧ Rows.fnExactJoinFieldsSpec.post enc Tryd.prog Tryd.f6 false true false false W args v W' := by
  have hW' := hW
  obtain ⟨p, q, hA0, hV, rfl, hfz, hnd⟩ := hW
  have hA : DataW.TrodAll enc Tryd.prog W 0 (fun _ => true) true Tryd.f6.params.toList args.toList ds p := hA0
  rw [Tryd.params6] at hA hval
  obtain ⟨v0, vs0, d0, ds0, p0, q0, hargs, rfl, rfl, h0, r0⟩ := trodAll_cons hA
  obtain ⟨rfl, rfl, rfl⟩ := trodAll_nil r0
  obtain rfl : args = #[v0] := by cases args; simp_all
  obtain ⟨rfl, rfl⟩ := trodVars_none hV
  obtain ⟨a0, n0, cap0, rfl⟩ := okWide_slice Tryd.underlying28 (hval 0 28 v0 rfl rfl)
  have k0 := h0
  have lt0 : ∀ x ∈ p0, x.block < W.heap.size := by obtain ⟨m, hm⟩ := k0; exact DataW.trod_lt m _ _ _ hm
  obtain ⟨f0, hs0, hn0, hf0⟩ : ∃ f : Nat → ByteArray, StrsAt W.heap.size W a0 n0 f ∧ n0 ≤ maxLen ∧ ∀ i, (f i).size ≤ maxLen := by
    obtain ⟨fuel, hf⟩ := h0
    exact strs_in hf
  clear hA0
  have hl : laidMet Tryd.prog Rows.fnExactJoinFieldsRow.laid W := (MakeChecks.laidMetH_plain Tryd.prog Rows.fnExactJoinFieldsRow.laid W (by kernel_rfl)) ▸ hL
  refine (walk a0 n0 cap0 f0 W hs0 hn0 hf0 (pow_of hl) hsh).mono fun e W' ⟨he, bel⟩ => ?_
  subst he
  exact ⟨_, rfl, _, _, _, [], _, [], hW', trodAll_mk1 (shut_bool Tryd.underlying4 _), (trodAll_cons_mk (Below.trod laidOut (by kernel_rfl) (of_decide_eq_true (by kernel_rfl)) k0 bel lt0) trodAll_mk0), rfl, bel.frame _, fun h => by cases h⟩

/-- The heap that the program's own initialisers leave meets the list. -/
theorem door_met (os : Os) (args : Array Value) : laidMetH Tryd.prog Rows.fnExactJoinFieldsRow.laid ((World.doorLaid Tryd.prog 62 os).forCall (fun _ _ => 0) ⟨#[], args, []⟩).memory :=
  laidMetH_of_parts3 (fuel := 8) (laidMet_of_run' 8 (by kernel_rfl) (by kernel_rfl)) (by kernel_rfl) (by kernel_rfl)
theorem reads (os : Os) {H : Type} (enc : TypeId × Value → H) : ∃ places, DataW.whole enc Tryd.prog ((World.doorLaid Tryd.prog 62 os).forCall (fun _ _ => 0) ⟨#[], #[.slice none 0 0], []⟩).memory Tryd.f6.params.toList Rows.fnExactJoinFieldsSpec.vars false #[.slice none 0 0].toList 8 = some ([.nil], [], places) :=
  ⟨[], by kernel_rfl⟩

set_option maxRecDepth 100000 in
theorem lifted (os : Os) (started : os.Started) (H : Type) (enc : TypeId × Value → H) (F : Stop.Interp) :
    ReturnsInHanded {} Tryd.checked os 6 .any ((OpenSpec.ofChange Rows.fnExactJoinFieldsSpec).preRow enc Tryd.prog Tryd.f6 Rows.fnExactJoinFieldsRow.domain false Rows.fnExactJoinFieldsRow.laid) (((OpenSpec.ofChange Rows.fnExactJoinFieldsSpec).at F).post enc Tryd.prog Tryd.f6 false true false false) := by
  obtain ⟨places, hx⟩ := reads os enc
  refine returnsInHanded_of_row (C := Tryd.checked) (s := OpenSpec.ofChange Rows.fnExactJoinFieldsSpec) own started (by kernel_rfl) Tryd.func6
    ⟨World.doorLaid Tryd.prog 62 os, fun _ _ => 0, ⟨#[], #[.slice none 0 0], []⟩, rfl, World.shaped_of_RefB (by kernel_rfl) (by kernel_rfl), rfl, (Input.okWide_of_okWideB (by kernel_rfl)).2,
      OpenSpec.preRow_of_cond 8 hx (by kernel_rfl) (fun k hk => by cases hk) (by kernel_rfl) (door_met os _), by simp [Assume.holds]⟩ ?_
  intro W base args ds gs before hval hW _ _ _ hL hsh _
  exact contract H enc W base args ds gs before hval hW hL hsh

theorem said : Rows.FnExactJoinFieldsSaid :=
  OpenClaim.holds_of_cond 6 Tryd.f6 rfl rfl rfl rfl rfl rfl rfl ⟨rfl, rfl, rfl, rfl, rfl⟩ rfl rfl rfl rfl rfl (by kernel_rfl) Tryd.func6 (by kernel_rfl)
    (of_decide_eq_true (by kernel_rfl)) (by unfold Func.isWrapper; first | (rw [if_pos (by decide +kernel)]; kernel_rfl) | (rw [if_neg (by decide +kernel)]; exact ⟨rfl, rfl⟩))
    (fun os started H enc _ F => by rw [OpenClaim.pre_eq_preRow]; exact lifted os started H enc F)

theorem plain (f : FuncId) (fn : Func) (hf : Tryd.pinned.checked.prog.funcNamed "loop.example/g03406/laws.FnExactJoinFields" = some f) (hfn : Tryd.pinned.checked.prog.funcs[f]? = some fn) :
    true = Tryd.pinned.checked.prog.looks [] ∧ ∀ (j : Nat) t, fn.params[j]? = some t → Tryd.pinned.checked.prog.wantsStandIn t = false := by
  obtain rfl : f = 6 := Option.some.inj ((show Tryd.prog.funcNamed "loop.example/g03406/laws.FnExactJoinFields" = some 6 by kernel_rfl).symm.trans hf) |>.symm
  obtain rfl : fn = Tryd.f6 := (Option.some.inj (Tryd.func6.symm.trans hfn)).symm
  refine ⟨by kernel_rfl, fun j t ht => ?_⟩
  rw [Tryd.params6] at ht
  obtain rfl : t = 28 := by simpa using Array.mem_of_getElem? ht
  exact (show Tryd.prog.wantsStandIn 28 = false by kernel_rfl)

theorem card : Rows.FnExactJoinFieldsCardSaid :=
  Claim7.holds_tied_plain_at .later [] _ _ _ _ said (fun _ h => by cases h) (by kernel_rfl) (fun _ h => by cases h) fnExactJoinFields_row_tie rfl ⟨rfl, rfl⟩ (by kernel_rfl) rfl plain (by kernel_rfl)
end Go.Proofs.YtogkbfafdlbodaaDoor.fnExactJoinFields
