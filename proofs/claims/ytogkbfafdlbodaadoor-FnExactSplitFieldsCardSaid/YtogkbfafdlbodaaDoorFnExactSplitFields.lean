/- Called with any string, the law FnExactSplitFields returns true and leaves everything as it was. Condition: the listed package-level variables read as the program's own initialisers lay them (the card ties them). -/
import Derived.Test.YtogkbfafdlbodaaDoorRows
import Derived.Test.YtogkbfafdlbodaaDoorCards
import Derived.Test.YtogkbfafdlbodaaDoorTie
import Derived.Test.YtogkbfafdlbodaaDoorLaid
import Derived.Test.YtogkbfafdlbodaaDoorSplitSpec
import Derived.Test.YtogkbfafdlbodaaDoorSplitImpl
import Derived.Test.YtogkbfafdlbodaaDoorMark
import Derived.WalkKit
import Derived.ProofKit
import Derived.OpenShut
import Derived.ShutString
import Derived.ChangeOld
import Derived.Below
import Derived.LaidMore
import Derived.Deep.DeepHandedRow
import Derived.Stop.Joined
import Derived.SevenTiedAt
namespace Go.Proofs.YtogkbfafdlbodaaDoor.fnExactSplitFields
open Go.ChangeShapes Go.WideShapes Go.ChangeAt Go.RowKit
open Go.ChangeMaps (open_string shut_string)
set_option linter.unusedVariables false


theorem own : ownKnob Tryd.prog.godebug = none := by kernel_rfl

set_option maxHeartbeats 1000000 in
theorem walk (a0 : ByteArray) (w0 : a0.size ≤ maxLen) (w : World) (tab : Lib.TabIs Tryd.prog w "internal/strconv.uint64pow10" .u64 Lib.pow10Tab) (errs : (∃ tp p, w.var? Tryd.prog "strconv.ErrSyntax" = some #[.iface tp p]) ∧ (∃ tp p, w.var? Tryd.prog "strconv.ErrRange" = some #[.iface tp p])) (hsh : w.ShapedOpen Tryd.prog) :
    Calls Tryd.prog 7 #[.string a0] w fun e w' => e = .returned (.bool true) ∧ Below w.heap.size w w' := by
  have hcount := splitF_size a0
  obtain ⟨T, hT⟩ : ∃ T, splitF a0.data.toList.length a0.data.toList = T := ⟨_, rfl⟩
  have met : Hid (Met w) := Lib.hid ⟨tab, errs, MaxMet.of hsh⟩
  clear tab errs hsh
  unfold maxLen at w0
  by_cases hbig : a0.size ≤ 1048576
  · have SP : Hid (∀ W, Calls Tryd.prog 26 #[.string a0] W (SplitPost W T)) := Lib.hid (fun W => hT ▸ specSplit a0 W hbig)
    have IM : Hid (∀ W, Met W → Calls Tryd.prog 14 #[.string a0] W (SplitPost W T)) := Lib.hid (fun W hm => hT ▸ implSplit a0 W hbig hm)
    rw [hT] at hcount
    clear hT
    obtain ⟨xs, hxs⟩ : ∃ xs, T.getD [] = xs := ⟨_, rfl⟩
    obtain ⟨ok, hok⟩ : ∃ ok, T.isSome = ok := ⟨_, rfl⟩
    unfold SplitPost at SP IM
    rw [hxs] at hcount SP IM
    rw [hok] at SP IM
    clear hxs hok
    have hn : xs.length ≤ 1048576 := by omega
    have hn' : xs.length ≤ 9223372036854775807 := by omega
    obtain ⟨n, rfl⟩ : ∃ n, n = xs.length := ⟨_, rfl⟩
    go_enter Tryd.func7, Tryd.ntmps7
    go_wp2_with fail
    refine (SP.out _).mono ?_
    rintro e w1 ⟨v3, rfl, ho, hb⟩
    have B1 := Lib.hid hb
    obtain ⟨a3, c3, rfl, hs⟩ := own_open ho
    have S1 := Lib.hid hs
    clear ho hb hs
    go_wp2_with fail
    refine (IM.out _ (met.out.below B1.out)).mono ?_
    rintro e w2 ⟨v5, rfl, ho, hb⟩
    have b2 := Lib.hid hb
    have B2 := Lib.hid (B1.out.trans (hb.mono B1.out.size))
    have S2 := Lib.hid (S1.out.below hb)
    obtain ⟨a5, c5, rfl, hs⟩ := own_open ho
    have O2 := Lib.hid ho
    have T2 := Lib.hid hs
    have s2 := Lib.hid (S2.out.mono hb.size)
    clear ho hb hs
    go_wp2_with fail
    refine (eqStrs _ _ _ _ _ _ _ w2.heap.size w2 T2.out s2.out hn' (fun _ _ => rfl)).mono ?_
    rintro e w3 ⟨rfl, m3, rfl⟩
    go_wp2_with fail
    refine (markStrs _ _ _ w1.heap.size _ _ (O2.out.below (below_drewN (Below.refl _ _) m3)) hn b2.out.size).mono ?_
    rintro e w4 ⟨rfl, ho, hb⟩
    have b4 := Lib.hid ((below_drewN (Below.refl w1.heap.size w2) m3).trans hb)
    have B4 := Lib.hid (B2.out.trans (b4.out.mono B1.out.size))
    have S4 := Lib.hid (S2.out.below b4.out)
    have M4 := Lib.hid (marks_open ho)
    have z4 := Lib.hid (Nat.le_trans b2.out.size b4.out.size)
    clear ho hb
    go_wp2_with fail
    refine (heldStrs _ _ _ w4 M4.out hn).mono ?_
    rintro e w5 ⟨rfl, hb⟩
    have b5 := Lib.hid hb
    have B5 := Lib.hid (B4.out.trans (hb.mono B4.out.size))
    have S5 := Lib.hid ((S4.out.mono z4.out).below hb)
    have M5 := Lib.hid (M4.out.below hb)
    clear hb
    go_wp2_with fail
    refine (IM.out _ (met.out.below B5.out)).mono ?_
    rintro e w6 ⟨v9, rfl, ho, hb⟩
    have B6 := Lib.hid (B5.out.trans (hb.mono B5.out.size))
    have S6 := Lib.hid (((S5.out.mono b5.out.size).below hb).mono hb.size)
    have M6 := Lib.hid (((M5.out.mono b5.out.size).below hb).mono hb.size)
    obtain ⟨a9, c9, rfl, hs⟩ := own_open ho
    have T6 := Lib.hid hs
    clear ho hb hs
    go_wp2_with fail
    refine (eqStrs _ _ _ _ _ _ _ w6.heap.size w6 T6.out S6.out hn' (fun _ _ => rfl)).mono ?_
    rintro e w7 ⟨rfl, m7, rfl⟩
    have M7 := Lib.hid (M6.out.below (below_drewN (Below.refl w6.heap.size w6) m7))
    have B7 := Lib.hid (below_drewN B6.out m7)
    go_wp2_with fail
    refine (heldStrs _ _ _ (w6.drewN m7) M7.out hn).mono ?_
    rintro e w8 ⟨rfl, hb⟩
    have B8 := Lib.hid (B7.out.trans (hb.mono B7.out.size))
    clear hb
    go_wp2_with fail
    go_ret
    exact ⟨rfl, B8.out⟩
  · clear met hcount hT
    go_enter Tryd.func7, Tryd.ntmps7
    go_wp2
    go_ret
    exact ⟨rfl, Below.refl _ _⟩

set_option maxRecDepth 100000 in
theorem contract (H : Type) (enc : TypeId × Value → H) (W : World) (base : Nat) (args : Array Value) (ds gs : List (DataW H)) (before : List MemPlace)
    (hval : ∀ (j : Nat) t v, Tryd.f7.params[j]? = some t → args[j]? = some v → Value.okWide Tryd.prog W .any base t v)
    (hW : DataW.Whole enc Tryd.prog Tryd.f7.params.toList Rows.fnExactSplitFieldsSpec.vars false W args.toList ds gs before) (hL : laidMetH Tryd.prog Rows.fnExactSplitFieldsRow.laid W) (hsh : W.ShapedOpen Tryd.prog) :
    Calls Tryd.prog 7 args W fun e W' => ∃ v, e = .returned v ∧ Rows.fnExactSplitFieldsSpec.post enc Tryd.prog Tryd.f7 false true false false W args v W' := by
  have hW' := hW
  obtain ⟨p, q, hA0, hV, rfl, hfz, hnd⟩ := hW
  have hA : DataW.TrodAll enc Tryd.prog W 0 (fun _ => true) true Tryd.f7.params.toList args.toList ds p := hA0
  rw [Tryd.params7] at hA hval
  obtain ⟨v0, vs0, d0, ds0, p0, q0, hargs, rfl, rfl, h0, r0⟩ := trodAll_cons hA
  obtain ⟨rfl, rfl, rfl⟩ := trodAll_nil r0
  obtain rfl : args = #[v0] := by cases args; simp_all
  obtain ⟨rfl, rfl⟩ := trodVars_none hV
  obtain ⟨a0, rfl, rfl, rfl, w0⟩ := open_string Tryd.underlying9 (hval 0 9 v0 rfl rfl) h0
  clear hA0
  have hl : laidMet Tryd.prog Rows.fnExactSplitFieldsRow.laid W := (MakeChecks.laidMetH_plain Tryd.prog Rows.fnExactSplitFieldsRow.laid W (by kernel_rfl)) ▸ hL
  refine (walk a0 w0 W (pow_of hl) (errs_of hl) hsh).mono fun e W' ⟨he, bel⟩ => ?_
  subst he
  exact ⟨_, rfl, _, _, _, [], [], [], hW', trodAll_mk1 (shut_bool Tryd.underlying4 _), (trodAll_cons_mk (shut_string Tryd.underlying9 w0) trodAll_mk0), rfl, bel.frame _, fun h => by cases h⟩

/-- The heap that the program's own initialisers leave meets the list. -/
theorem door_met (os : Os) (args : Array Value) : laidMetH Tryd.prog Rows.fnExactSplitFieldsRow.laid ((World.doorLaid Tryd.prog 62 os).forCall (fun _ _ => 0) ⟨#[], args, []⟩).memory :=
  laidMetH_of_parts3 (fuel := 8) (laidMet_of_run' 8 (by kernel_rfl) (by kernel_rfl)) (by kernel_rfl) (by kernel_rfl)
theorem reads (os : Os) {H : Type} (enc : TypeId × Value → H) : ∃ places, DataW.whole enc Tryd.prog ((World.doorLaid Tryd.prog 62 os).forCall (fun _ _ => 0) ⟨#[], #[.string ByteArray.empty], []⟩).memory Tryd.f7.params.toList Rows.fnExactSplitFieldsSpec.vars false #[.string ByteArray.empty].toList 8 = some ([.lit (.string [])], [], places) :=
  ⟨[], by kernel_rfl⟩

set_option maxRecDepth 100000 in
theorem lifted (os : Os) (started : os.Started) (H : Type) (enc : TypeId × Value → H) (F : Stop.Interp) :
    ReturnsInHanded {} Tryd.checked os 7 .any ((OpenSpec.ofChange Rows.fnExactSplitFieldsSpec).preRow enc Tryd.prog Tryd.f7 Rows.fnExactSplitFieldsRow.domain false Rows.fnExactSplitFieldsRow.laid) (((OpenSpec.ofChange Rows.fnExactSplitFieldsSpec).at F).post enc Tryd.prog Tryd.f7 false true false false) := by
  obtain ⟨places, hx⟩ := reads os enc
  refine returnsInHanded_of_row (C := Tryd.checked) (s := OpenSpec.ofChange Rows.fnExactSplitFieldsSpec) own started (by kernel_rfl) Tryd.func7
    ⟨World.doorLaid Tryd.prog 62 os, fun _ _ => 0, ⟨#[], #[.string ByteArray.empty], []⟩, rfl, World.shaped_of_RefB (by kernel_rfl) (by kernel_rfl), rfl, (Input.okWide_of_okWideB (by kernel_rfl)).2,
      OpenSpec.preRow_of_cond 8 hx (by kernel_rfl) (fun k hk => by cases hk) (by kernel_rfl) (door_met os _), by simp [Assume.holds]⟩ ?_
  intro W base args ds gs before hval hW _ _ _ hL hsh _
  exact contract H enc W base args ds gs before hval hW hL hsh

theorem said : Rows.FnExactSplitFieldsSaid :=
  OpenClaim.holds_of_cond 7 Tryd.f7 rfl rfl rfl rfl rfl rfl rfl ⟨rfl, rfl, rfl, rfl, rfl⟩ rfl rfl rfl rfl rfl (by kernel_rfl) Tryd.func7 (by kernel_rfl)
    (of_decide_eq_true (by kernel_rfl)) (by unfold Func.isWrapper; first | (rw [if_pos (by decide +kernel)]; kernel_rfl) | (rw [if_neg (by decide +kernel)]; exact ⟨rfl, rfl⟩))
    (fun os started H enc _ F => by rw [OpenClaim.pre_eq_preRow]; exact lifted os started H enc F)

theorem plain (f : FuncId) (fn : Func) (hf : Tryd.pinned.checked.prog.funcNamed "loop.example/g03406/laws.FnExactSplitFields" = some f) (hfn : Tryd.pinned.checked.prog.funcs[f]? = some fn) :
    true = Tryd.pinned.checked.prog.looks [] ∧ ∀ (j : Nat) t, fn.params[j]? = some t → Tryd.pinned.checked.prog.wantsStandIn t = false := by
  obtain rfl : f = 7 := Option.some.inj ((show Tryd.prog.funcNamed "loop.example/g03406/laws.FnExactSplitFields" = some 7 by kernel_rfl).symm.trans hf) |>.symm
  obtain rfl : fn = Tryd.f7 := (Option.some.inj (Tryd.func7.symm.trans hfn)).symm
  refine ⟨by kernel_rfl, fun j t ht => ?_⟩
  rw [Tryd.params7] at ht
  obtain rfl : t = 9 := by simpa using Array.mem_of_getElem? ht
  exact (show Tryd.prog.wantsStandIn 9 = false by kernel_rfl)

theorem card : Rows.FnExactSplitFieldsCardSaid :=
  Claim7.holds_tied_plain_at .later [] _ _ _ _ said (fun _ h => by cases h) (by kernel_rfl) (fun _ h => by cases h) fnExactSplitFields_row_tie rfl ⟨rfl, rfl⟩ (by kernel_rfl) rfl plain (by kernel_rfl)
end Go.Proofs.YtogkbfafdlbodaaDoor.fnExactSplitFields
