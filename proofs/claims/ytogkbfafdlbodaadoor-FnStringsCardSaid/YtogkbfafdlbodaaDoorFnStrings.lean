/- Called with any slice of bytes, the law FnStrings returns true and leaves everything as it was. Condition: the listed package-level variables read as the program's own initialisers lay them (the card ties them). -/
import Derived.Test.YtogkbfafdlbodaaDoorRows
import Derived.Test.YtogkbfafdlbodaaDoorCards
import Derived.Test.YtogkbfafdlbodaaDoorTie
import Derived.Test.YtogkbfafdlbodaaDoorLaid
import Derived.Test.YtogkbfafdlbodaaDoorStringsKit
import Derived.WalkKit
import Derived.ProofKit
import Derived.OpenShut
import Derived.ShutString
import Derived.ChangeOld
import Derived.Below
import Derived.LaidMore
import Derived.Deep.DeepHandedRow
import Derived.Stop.Joined
import Derived.SevenTiedAt
namespace Go.Proofs.YtogkbfafdlbodaaDoor.fnStrings
open Go.ChangeShapes Go.WideShapes Go.ChangeAt Go.RowKit
open Go.ChangeMaps (open_string shut_string)
set_option linter.unusedVariables false

theorem laidOut : laidOutB Tryd.prog = true := by kernel_rfl
theorem own : ownKnob Tryd.prog.godebug = none := by kernel_rfl

set_option maxHeartbeats 1000000 in
set_option maxRecDepth 100000 in
theorem walk (a0 : Option Addr) (n0 cap0 : Nat) (w : World) (hs0 : CodeAt w.heap.size w a0 n0) (tab : Lib.TabIs Tryd.prog w "internal/strconv.uint64pow10" .u64 Lib.pow10Tab) (errs : (∃ tp p, w.var? Tryd.prog "strconv.ErrSyntax" = some #[.iface tp p]) ∧ (∃ tp p, w.var? Tryd.prog "strconv.ErrRange" = some #[.iface tp p])) (hsh : w.ShapedOpen Tryd.prog) :
    Calls Tryd.prog 3 #[.slice a0 n0 cap0] w fun e w' => e = .returned (.bool true) ∧ Below w.heap.size w w' := by
  have met : Hid (Met w) := Lib.hid ⟨tab, errs, MaxMet.of hsh⟩
  have S := Lib.hid hs0
  clear tab errs hsh hs0
  by_cases hbig : 1048576 < (n0 : Int)
  · clear met S
    go_enter Tryd.func3, Tryd.ntmps3
    go_wp2_with fail
    refine (bigAny a0 n0 cap0 w).mono ?_
    rintro e w' ⟨rfl, rfl⟩
    go_wp2
    go_ret
    exact ⟨rfl, Below.refl _ _⟩
  · have hn : n0 ≤ 1048576 := by omega
    go_enter Tryd.func3, Tryd.ntmps3
    go_wp2_with fail
    refine (bigAny a0 n0 cap0 w).mono ?_
    rintro e w' ⟨rfl, rfl⟩
    go_wp2_with fail
    refine (drawQuote a0 n0 cap0 w S.out hn).mono ?_
    rintro e w1 ⟨⟨s, rfl, hsz⟩, hb⟩
    have B1 := Lib.hid hb
    clear hb
    obtain ⟨q, hq, hshown, hq1, hq2, hq3⟩ := quote_set s hsz
    have SH := Lib.hid hshown
    have Q1 := Lib.hid hq1
    have Q2 := Lib.hid hq2
    have Q3 := Lib.hid hq3
    clear hshown hq1 hq2 hq3
    go_wp2_with fail
    refine (Q1.out w1).mono ?_
    rintro e w2 ⟨rfl, hb⟩
    have B2 := Lib.hid (B1.out.trans (hb.mono B1.out.size))
    clear hb
    go_wp2_with fail
    refine (Q3.out w2).mono ?_
    rintro e w3 ⟨rfl, hb⟩
    have B3 := Lib.hid (B2.out.trans (hb.mono B2.out.size))
    clear hb
    go_wp2_with fail
    go_loop [7] (fun i => ∃ k : Nat, k ≤ q.size ∧ i = .int .i64 k) (fun i => q.size - (intOf i).toNat)
    case atStart => exact ⟨0, Nat.zero_le _, rfl⟩
    case round =>
      obtain ⟨k, hk, rfl⟩ := hrel
      by_cases hlt : k < q.size
      · have h1 := (SH.out k hlt).1
        have h2 := (SH.out k hlt).2
        have h1' : 32 ≤ ((q[k]).toNat : Int) := by omega
        have h2' : ((q[k]).toNat : Int) ≤ 126 := by omega
        have hlt' : (k : Int) < (q.size : Int) := by omega
        clear h1 h2
        go_wp2
        go_round
        case rel => exact ⟨k + 1, by omega, by go_num⟩
        case measure => simp [intOf]; omega
      · obtain rfl : k = q.size := by omega
        go_wp2_with fail
        refine (drawJoin a0 n0 cap0 w3 ((S.out.below B3.out).mono B3.out.size) hn).mono ?_
        rintro e w4 ⟨v, rfl, ⟨xs, ho, hl, hx⟩, hb⟩
        obtain ⟨a, cap, rfl, hs⟩ := own_open ho
        have B4 := Lib.hid (B3.out.trans (hb.mono B3.out.size))
        have L4 := Lib.hid hs
        obtain ⟨j, hjz, hj1, hj2, hj3⟩ := join_set xs hl hx
        have J1 := Lib.hid hj1
        have J2 := Lib.hid hj2
        have J3 := Lib.hid hj3
        obtain ⟨f, hf⟩ : ∃ f, strOf xs = f := ⟨_, rfl⟩
        rw [hf] at L4 J1 J2 J3
        obtain ⟨m, hm⟩ : ∃ m, xs.length = m := ⟨_, rfl⟩
        rw [hm] at hl L4 J1 J2 J3 ⊢
        clear hj1 hj2 hj3 ho hs hb hx hf hm
        go_wp2_with fail
        refine (J1.out a cap w4 L4.out (met.out.below B4.out)).mono ?_
        rintro e w5 ⟨rfl, hb⟩
        have B5 := Lib.hid (B4.out.trans (hb.mono B4.out.size))
        have L5 := Lib.hid ((L4.out.below hb).mono hb.size)
        clear hb
        go_wp2_with fail
        refine (J3.out w5 (met.out.below B5.out)).mono ?_
        rintro e w6 ⟨a', cap', rfl, hs, hb⟩
        have B6 := Lib.hid (B5.out.trans (hb.mono B5.out.size))
        have L6 := Lib.hid ((L5.out.below hb).mono hb.size)
        have M6 := Lib.hid hs
        clear hb hs
        go_wp2_with fail
        refine (drawFmt a0 n0 cap0 w6 ((S.out.below B6.out).mono B6.out.size) hn).mono ?_
        rintro e w7 ⟨⟨x, rfl, hx0, hx1⟩, hb⟩
        have B7 := Lib.hid (B6.out.trans (hb.mono B6.out.size))
        have L7 := Lib.hid ((L6.out.below hb).mono hb.size)
        have M7 := Lib.hid ((M6.out.below hb).mono hb.size)
        clear hb
        obtain ⟨t, ht1, ht2, ht3⟩ := num_set x hx0 hx1
        have T1 := Lib.hid ht1
        have T2 := Lib.hid ht2
        have T3 := Lib.hid ht3
        clear ht1 ht2 ht3
        go_wp2_with fail
        refine (T1.out w7 (met.out.below B7.out)).mono ?_
        rintro e w8 ⟨rfl, hb⟩
        have B8 := Lib.hid (B7.out.trans (hb.mono B7.out.size))
        have L8 := Lib.hid ((L7.out.below hb).mono hb.size)
        have M8 := Lib.hid ((M7.out.below hb).mono hb.size)
        clear hb
        go_wp2_with fail
        refine (T3.out w8 (met.out.below B8.out)).mono ?_
        rintro e w9 ⟨⟨y, rfl, hy⟩, hb⟩
        have B9 := Lib.hid (B8.out.trans (hb.mono B8.out.size))
        have L9 := Lib.hid ((L8.out.below hb).mono hb.size)
        have M9 := Lib.hid ((M8.out.below hb).mono hb.size)
        clear hb
        go_wp2_with fail
        refine (Q2.out w9).mono ?_
        rintro e w10 ⟨rfl, hb⟩
        have B10 := Lib.hid (B9.out.trans (hb.mono B9.out.size))
        have L10 := Lib.hid ((L9.out.below hb).mono hb.size)
        have M10 := Lib.hid ((M9.out.below hb).mono hb.size)
        clear hb
        go_wp2_with fail
        refine (J2.out a cap w10 L10.out).mono ?_
        rintro e w11 ⟨rfl, hb⟩
        have B11 := Lib.hid (B10.out.trans (hb.mono B10.out.size))
        have L11 := Lib.hid ((L10.out.below hb).mono hb.size)
        have M11 := Lib.hid ((M10.out.below hb).mono hb.size)
        clear hb
        go_wp2_with fail
        refine (sameAny a' a m cap' cap f f w11.heap.size w11 M11.out L11.out (by omega) (fun _ _ => rfl)).mono ?_
        rintro e w12 ⟨rfl, m12, rfl⟩
        have B12 := Lib.hid (below_drewN B11.out m12)
        go_wp2_with fail
        refine (T2.out _).mono ?_
        rintro e w13 ⟨rfl, hb⟩
        have B13 := Lib.hid (B12.out.trans (hb.mono B12.out.size))
        clear hb
        by_cases c1 : -1000000000 < x
        · by_cases c2 : x < 1000000000
          · obtain rfl := hy ⟨c1, c2⟩
            clear hy
            go_wp2
            go_ret
            exact ⟨by simp, B13.out⟩
          · have c2' : 1000000000 ≤ x := by omega
            clear hy
            go_wp2
            go_ret
            exact ⟨by simp, B13.out⟩
        · have c1' : x ≤ -1000000000 := by omega
          clear hy
          go_wp2
          go_ret
          exact ⟨by simp, B13.out⟩

set_option maxRecDepth 100000 in
theorem contract (H : Type) (enc : TypeId × Value → H) (W : World) (base : Nat) (args : Array Value) (ds gs : List (DataW H)) (before : List MemPlace)
    (hval : ∀ (j : Nat) t v, Tryd.f3.params[j]? = some t → args[j]? = some v → Value.okWide Tryd.prog W .any base t v)
    (hW : DataW.Whole enc Tryd.prog Tryd.f3.params.toList Rows.fnStringsSpec.vars false W args.toList ds gs before) (hL : laidMetH Tryd.prog Rows.fnStringsRow.laid W) (hsh : W.ShapedOpen Tryd.prog) :
    Calls Tryd.prog 3 args W fun e W' => ∃ v, e = .returned v ∧ Rows.fnStringsSpec.post enc Tryd.prog Tryd.f3 false true false false W args v W' := by
  have hW' := hW
  obtain ⟨p, q, hA0, hV, rfl, hfz, hnd⟩ := hW
  have hA : DataW.TrodAll enc Tryd.prog W 0 (fun _ => true) true Tryd.f3.params.toList args.toList ds p := hA0
  rw [Tryd.params3] at hA hval
  obtain ⟨v0, vs0, d0, ds0, p0, q0, hargs, rfl, rfl, h0, r0⟩ := trodAll_cons hA
  obtain ⟨rfl, rfl, rfl⟩ := trodAll_nil r0
  obtain rfl : args = #[v0] := by cases args; simp_all
  obtain ⟨rfl, rfl⟩ := trodVars_none hV
  obtain ⟨a0, n0, cap0, rfl⟩ := okWide_slice Tryd.underlying22 (hval 0 22 v0 rfl rfl)
  have k0 := h0
  have lt0 : ∀ x ∈ p0, x.block < W.heap.size := by obtain ⟨m, hm⟩ := k0; exact DataW.trod_lt m _ _ _ hm
  have hs0 : CodeAt W.heap.size W a0 n0 := by
    obtain ⟨fuel, hf⟩ := h0
    exact bytes_in hf
  clear hA0
  have hl : laidMet Tryd.prog Rows.fnStringsRow.laid W := (MakeChecks.laidMetH_plain Tryd.prog Rows.fnStringsRow.laid W (by kernel_rfl)) ▸ hL
  refine (walk a0 n0 cap0 W hs0 (pow_of hl) (errs_of hl) hsh).mono fun e W' ⟨he, bel⟩ => ?_
  subst he
  exact ⟨_, rfl, _, _, _, [], _, [], hW', trodAll_mk1 (shut_bool Tryd.underlying4 _), (trodAll_cons_mk (Below.trod laidOut (by kernel_rfl) (of_decide_eq_true (by kernel_rfl)) k0 bel lt0) trodAll_mk0), rfl, bel.frame _, fun h => by cases h⟩

/-- The heap that the program's own initialisers leave meets the list. -/
theorem door_met (os : Os) (args : Array Value) : laidMetH Tryd.prog Rows.fnStringsRow.laid ((World.doorLaid Tryd.prog 62 os).forCall (fun _ _ => 0) ⟨#[], args, []⟩).memory :=
  laidMetH_of_parts3 (fuel := 8) (laidMet_of_run' 8 (by kernel_rfl) (by kernel_rfl)) (by kernel_rfl) (by kernel_rfl)
theorem reads (os : Os) {H : Type} (enc : TypeId × Value → H) : ∃ places, DataW.whole enc Tryd.prog ((World.doorLaid Tryd.prog 62 os).forCall (fun _ _ => 0) ⟨#[], #[.slice none 0 0], []⟩).memory Tryd.f3.params.toList Rows.fnStringsSpec.vars false #[.slice none 0 0].toList 8 = some ([.nil], [], places) :=
  ⟨[], by kernel_rfl⟩

set_option maxRecDepth 100000 in
theorem lifted (os : Os) (started : os.Started) (H : Type) (enc : TypeId × Value → H) (F : Stop.Interp) :
    ReturnsInHanded {} Tryd.checked os 3 .any ((OpenSpec.ofChange Rows.fnStringsSpec).preRow enc Tryd.prog Tryd.f3 Rows.fnStringsRow.domain false Rows.fnStringsRow.laid) (((OpenSpec.ofChange Rows.fnStringsSpec).at F).post enc Tryd.prog Tryd.f3 false true false false) := by
  obtain ⟨places, hx⟩ := reads os enc
  refine returnsInHanded_of_row (C := Tryd.checked) (s := OpenSpec.ofChange Rows.fnStringsSpec) own started (by kernel_rfl) Tryd.func3
    ⟨World.doorLaid Tryd.prog 62 os, fun _ _ => 0, ⟨#[], #[.slice none 0 0], []⟩, rfl, World.shaped_of_RefB (by kernel_rfl) (by kernel_rfl), rfl, (Input.okWide_of_okWideB (by kernel_rfl)).2,
      OpenSpec.preRow_of_cond 8 hx (by kernel_rfl) (fun k hk => by cases hk) (by kernel_rfl) (door_met os _), by simp [Assume.holds]⟩ ?_
  intro W base args ds gs before hval hW _ _ _ hL hsh _
  exact contract H enc W base args ds gs before hval hW hL hsh

theorem said : Rows.FnStringsSaid :=
  OpenClaim.holds_of_cond 3 Tryd.f3 rfl rfl rfl rfl rfl rfl rfl ⟨rfl, rfl, rfl, rfl, rfl⟩ rfl rfl rfl rfl rfl (by kernel_rfl) Tryd.func3 (by kernel_rfl)
    (of_decide_eq_true (by kernel_rfl)) (by unfold Func.isWrapper; first | (rw [if_pos (by decide +kernel)]; kernel_rfl) | (rw [if_neg (by decide +kernel)]; exact ⟨rfl, rfl⟩))
    (fun os started H enc _ F => by rw [OpenClaim.pre_eq_preRow]; exact lifted os started H enc F)

theorem plain (f : FuncId) (fn : Func) (hf : Tryd.pinned.checked.prog.funcNamed "loop.example/g03406/laws.FnStrings" = some f) (hfn : Tryd.pinned.checked.prog.funcs[f]? = some fn) :
    true = Tryd.pinned.checked.prog.looks [] ∧ ∀ (j : Nat) t, fn.params[j]? = some t → Tryd.pinned.checked.prog.wantsStandIn t = false := by
  obtain rfl : f = 3 := Option.some.inj ((show Tryd.prog.funcNamed "loop.example/g03406/laws.FnStrings" = some 3 by kernel_rfl).symm.trans hf) |>.symm
  obtain rfl : fn = Tryd.f3 := (Option.some.inj (Tryd.func3.symm.trans hfn)).symm
  refine ⟨by kernel_rfl, fun j t ht => ?_⟩
  rw [Tryd.params3] at ht
  obtain rfl : t = 22 := by simpa using Array.mem_of_getElem? ht
  exact (show Tryd.prog.wantsStandIn 22 = false by kernel_rfl)

theorem card : Rows.FnStringsCardSaid :=
  Claim7.holds_tied_plain_at .later [] _ _ _ _ said (fun _ h => by cases h) (by kernel_rfl) (fun _ h => by cases h) fnStrings_row_tie rfl ⟨rfl, rfl⟩ (by kernel_rfl) rfl plain (by kernel_rfl)
end Go.Proofs.YtogkbfafdlbodaaDoor.fnStrings
