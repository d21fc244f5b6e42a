/- Called with any arguments (slices of bytes), the law FnLogic returns true and leaves everything as it was. No condition. -/
import Derived.Test.YtmglolpiekbnpaaRows
import Derived.Test.YtmglolpiekbnpaaLogList
import Derived.Test.YtmglolpiekbnpaaLogDraw
import Derived.Test.YtmglolpiekbnpaaFresh
import Derived.WalkKit
import Derived.ProofKit
import Derived.OpenShut
import Derived.ShutString
import Derived.ChangeOld
import Derived.Carry
import Derived.Below
namespace Go.Proofs.Ytmglolpiekbnpaa.fnLogic
open Go.ChangeShapes Go.WideShapes Go.ChangeAt Go.RowKit
open Go.ChangeMaps (open_string shut_string)
set_option linter.unusedVariables false

theorem laidOut : laidOutB Try.prog = true := by kernel_rfl
theorem own : ownKnob Try.prog.godebug = none := by kernel_rfl

set_option maxHeartbeats 1000000 in
set_option maxRecDepth 100000 in
theorem walk (a0 : Option Addr) (n0 cap0 : Nat) (w : World) (hs0 : CodeAt w.heap.size w a0 n0) :
    Calls Try.prog 4 #[.slice a0 n0 cap0] w fun e w' => e = .returned (.bool true) ∧ Below w.heap.size w w' := by
  have S := Lib.hid hs0
  clear hs0
  by_cases hbig : 1048576 < (n0 : Int)
  · clear S
    go_enter Try.func4, Try.ntmps4
    go_wp2_with fail
    refine (bigCode a0 n0 cap0 w).mono ?_
    rintro e w' ⟨rfl, rfl⟩
    go_wp2
    go_ret
    exact ⟨rfl, Below.refl _ _⟩
  · have hn : n0 ≤ 1048576 := by omega
    obtain ⟨i0, hi, hz0, hz1, hz2⟩ := info_parts infoInt
    go_enter Try.func4, Try.ntmps4
    go_wp2_with fail
    refine (bigCode a0 n0 cap0 w).mono ?_
    rintro e w' ⟨rfl, rfl⟩
    go_wp2_with fail
    refine (drawAndL a0 n0 cap0 w S.out hn).mono ?_
    rintro e w1 ⟨⟨x, y, rfl⟩, hb⟩
    have B1 := Lib.hid hb
    clear hb
    go_wp2_with fail
    refine (drawAllL a0 n0 cap0 _ ((S.out.below B1.out).mono B1.out.size) hn).mono ?_
    rintro e w2 ⟨⟨v, zs, rfl, ho, hz⟩, hb⟩
    obtain ⟨al, capl, rfl, hl⟩ := ownI_open ho
    obtain ⟨n, hnz⟩ : ∃ n, zs.length = n := ⟨_, rfl⟩
    obtain ⟨f, hf⟩ : ∃ f : Nat → Int, (fun i => zs.getD i 0) = f := ⟨_, rfl⟩
    rw [hnz] at hz hl ⊢
    rw [hf] at hl
    have I2 := Lib.hid hl
    have B2 := Lib.hid (B1.out.trans (hb.mono B1.out.size))
    clear hb hl ho hnz hf S B1
    have E2 := Lib.hid (ownI_empty w2.heap.size w2 (Nat.le_refl _))
    go_wp2
    go_loopw [6, 7, 8, 9] (fun v p q c wr => ∃ (k : Nat) (acc : List Int), k ≤ n ∧ p = .int .i64 (allF f k) ∧ q = .int .i64 (anyF f k) ∧ c = .int .i64 k ∧ OwnI w2.heap.size wr v acc ∧ acc.length = k ∧ (∀ i, i < k → acc.getD i 0 = nL (f i)) ∧ Below w2.heap.size w2 wr) (fun _ _ _ c _ => n - (intOf c).toNat)
    case atStart => exact ⟨0, [], by omega, rfl, rfl, rfl, E2.out, rfl, fun i h => by omega, (Below.refl _ _).alloc (Nat.le_refl _) _⟩
    case round =>
      rename_i wr
      obtain ⟨k, acc, hk, rfl, rfl, rfl, hown, hlen, hacc, hb⟩ := hrel
      have OW := Lib.hid hown
      have BB := Lib.hid hb
      have AC := Lib.hid hacc
      have LE := Lib.hid hlen
      clear hown hb hacc
      by_cases hlt : k < n
      · obtain ⟨b, off, rfl, hbB, hc⟩ := (I2.out.below BB.out) k hlt
        have hlt' : (k : Int) < (n : Int) := by omega
        have hk5 : acc.length ≤ 5 := by omega
        clear hlen
        have CN : Hid (∀ W, Calls Try.prog 27 #[.int .i64 (f k)] W fun e w' => e = .returned (.int .i64 (nL (f k))) ∧ W = w') := Lib.hid (implNotL (f k))
        have CA : Hid (∀ W, Calls Try.prog 28 #[.int .i64 (allF f k), .int .i64 (f k)] W fun e w' => e = .returned (.int .i64 (allF f (k + 1))) ∧ W = w') := Lib.hid (implAndL (allF f k) (f k))
        have CO : Hid (∀ W, Calls Try.prog 29 #[.int .i64 (anyF f k), .int .i64 (f k)] W fun e w' => e = .returned (.int .i64 (anyF f (k + 1))) ∧ W = w') := Lib.hid (implOrL (anyF f k) (f k))
        have AC2 := Lib.hid (show ∀ i, i < k + 1 → (acc ++ [nL (f k)]).getD i 0 = nL (f i) by
          intro i h
          have hlen := LE.out
          by_cases e : i = k
          · subst e; rw [← hlen]; simp
          · have := AC.out i (by omega)
            rw [← this]
            simp only [List.getD_eq_getElem?_getD]
            rw [List.getElem?_append_left (by omega)])
        obtain ⟨nf, hnf⟩ : ∃ z, nL (f k) = z := ⟨_, rfl⟩
        rw [hnf] at CN AC2
        clear hnf
        go_wp2_with fail
        refine (CN.out _).mono ?_
        rintro e w' ⟨rfl, rfl⟩
        go_wp2_with (at_builtin; refine wpList_append_own _ rfl _ _ 33 rfl w2.heap.size 3 i0 (.int .i64 0) 1 8 Try.underlying33 hi hz0 hz1 hz2 rfl (by decide) _ _ _ rfl (World.ownsRow.alloc OW.out _) ⟨wr.heap.size, 0, none⟩ 1 1 [.int .i64 nf] rfl rfl ?c1 ?c2 ?c3 ?c4 ?c5 ?_)
        case c1 => exact cell_one_new _ _ _
        case c2 => intro u hu; simp at hu; subst hu; rfl
        case c3 => unfold maxLen; omega
        case c4 => omega
        case c5 => have := BB.out.size; simp; omega
        intro v' w4 hown' hgrow _
        have O4 := Lib.hid (OwnI.snoc hown')
        have B4 := Lib.hid ((BB.out.alloc BB.out.size _).grown hgrow (by have := BB.out.size; simp; omega) OW.out.base)
        obtain ⟨b', off', eb, _, hc4⟩ := (I2.out.below B4.out) k hlt
        simp only [Option.some.injEq, Addr.mk.injEq] at eb
        obtain ⟨rfl, rfl, _⟩ := eb
        clear hown' hgrow hc
        go_wp2_with fail
        refine (CA.out _).mono ?_
        rintro e w' ⟨rfl, rfl⟩
        go_wp2_with fail
        refine (CO.out _).mono ?_
        rintro e w' ⟨rfl, rfl⟩
        go_wp2
        go_roundw
        case rel => exact ⟨k + 1, acc ++ [nf], by omega, rfl, rfl, by go_num, O4.out, by rw [List.length_append, List.length_singleton, LE.out], AC2.out, B4.out⟩
        case measure => simp [intOf]; omega
      · obtain rfl : k = n := by omega
        obtain ⟨an, capn, rfl, hln⟩ := ownI_open OW.out
        have HN := Lib.hid (implAny an acc.length capn (fun i => acc.getD i 0) wr.heap.size wr hln (by omega))
        rw [anyF_congr (n := acc.length) (f := fun i => acc.getD i 0) (g := fun i => nL (f i)) (fun i h => AC.out i (by omega)), anyF_not, LE.out] at HN
        have HA := Lib.hid (implAll al k capl f w2.heap.size wr (I2.out.below BB.out) (by omega))
        have HO := Lib.hid (implAny al k capl f w2.heap.size wr (I2.out.below BB.out) (by omega))
        rw [LE.out]
        obtain ⟨U, hU⟩ : ∃ z, allF f k = z := ⟨_, rfl⟩
        obtain ⟨V, hV⟩ : ∃ z, anyF f k = z := ⟨_, rfl⟩
        obtain ⟨NU, hNU⟩ : ∃ z, nL U = z := ⟨_, rfl⟩
        rw [hU] at HN HA
        rw [hNU] at HN
        rw [hV] at HO
        have HU := Lib.hid hNU
        clear hNU hlen hln
        rw [hU, hV]
        clear hU hV
        obtain ⟨A, hA⟩ : ∃ z, aL x y = z := ⟨_, rfl⟩
        obtain ⟨O, hO⟩ : ∃ z, oL x y = z := ⟨_, rfl⟩
        obtain ⟨X, hX⟩ : ∃ z, xL x y = z := ⟨_, rfl⟩
        obtain ⟨nx, hnx⟩ : ∃ z, nL x = z := ⟨_, rfl⟩
        obtain ⟨ny, hny⟩ : ∃ z, nL y = z := ⟨_, rfl⟩
        obtain ⟨t1, h1⟩ : ∃ z, oL nx ny = z := ⟨_, rfl⟩
        obtain ⟨t2, h2⟩ : ∃ z, aL x ny = z := ⟨_, rfl⟩
        obtain ⟨t3, h3⟩ : ∃ z, aL nx y = z := ⟨_, rfl⟩
        have K1 : Hid (∀ W, Calls Try.prog 28 #[.int .i64 x, .int .i64 y] W fun e w' => e = .returned (.int .i64 A) ∧ W = w') := Lib.hid (by
          intro W
          have h := implAndL x y W
          rw [hA] at h
          exact h)
        have K2 : Hid (∀ W, Calls Try.prog 30 #[.int .i64 x] W fun e w' => e = .returned (.int .i64 nx) ∧ W = w') := Lib.hid (by
          intro W
          have h := specNotL x W
          rw [hnx] at h
          exact h)
        have K3 : Hid (∀ W, Calls Try.prog 30 #[.int .i64 y] W fun e w' => e = .returned (.int .i64 ny) ∧ W = w') := Lib.hid (by
          intro W
          have h := specNotL y W
          rw [hny] at h
          exact h)
        have K4 : Hid (∀ W, Calls Try.prog 31 #[.int .i64 nx, .int .i64 ny] W fun e w' => e = .returned (.int .i64 t1) ∧ W = w') := Lib.hid (by
          intro W
          have h := specOrL nx ny W
          rw [h1] at h
          exact h)
        have K5 : Hid (∀ W, Calls Try.prog 30 #[.int .i64 t1] W fun e w' => e = .returned (.int .i64 A) ∧ W = w') := Lib.hid (by
          intro W
          have h := specNotL t1 W
          rw [show nL t1 = A by rw [← h1, ← hnx, ← hny, aL_morgan, hA]] at h
          exact h)
        have K6 : Hid (∀ W, Calls Try.prog 29 #[.int .i64 x, .int .i64 y] W fun e w' => e = .returned (.int .i64 O) ∧ W = w') := Lib.hid (by
          intro W
          have h := implOrL x y W
          rw [hO] at h
          exact h)
        have K7 : Hid (∀ W, Calls Try.prog 31 #[.int .i64 y, .int .i64 x] W fun e w' => e = .returned (.int .i64 O) ∧ W = w') := Lib.hid (by
          intro W
          have h := specOrL y x W
          rw [oL_comm, hO] at h
          exact h)
        have K8 : Hid (∀ W, Calls Try.prog 32 #[.int .i64 x, .int .i64 y] W fun e w' => e = .returned (.int .i64 X) ∧ W = w') := Lib.hid (by
          intro W
          have h := implXorL x y W
          rw [hX] at h
          exact h)
        have K9 : Hid (∀ W, Calls Try.prog 33 #[.int .i64 x, .int .i64 ny] W fun e w' => e = .returned (.int .i64 t2) ∧ W = w') := Lib.hid (by
          intro W
          have h := specAndL x ny W
          rw [h2] at h
          exact h)
        have K10 : Hid (∀ W, Calls Try.prog 33 #[.int .i64 nx, .int .i64 y] W fun e w' => e = .returned (.int .i64 t3) ∧ W = w') := Lib.hid (by
          intro W
          have h := specAndL nx y W
          rw [h3] at h
          exact h)
        have K11 : Hid (∀ W, Calls Try.prog 31 #[.int .i64 t2, .int .i64 t3] W fun e w' => e = .returned (.int .i64 X) ∧ W = w') := Lib.hid (by
          intro W
          have h := specOrL t2 t3 W
          rw [show oL t2 t3 = X by rw [← h2, ← h3, ← hnx, ← hny, xL_parts, hX]] at h
          exact h)
        have K12 : Hid (∀ W, Calls Try.prog 30 #[.int .i64 U] W fun e w' => e = .returned (.int .i64 NU) ∧ W = w') := Lib.hid (by
          intro W
          have h := specNotL U W
          rw [HU.out] at h
          exact h)
        clear hA hO hX hnx hny h1 h2 h3 AC LE OW
        go_wp2_with fail
        refine (K1.out _).mono ?_
        rintro e w' ⟨rfl, rfl⟩
        go_wp2_with fail
        refine (K2.out _).mono ?_
        rintro e w' ⟨rfl, rfl⟩
        go_wp2_with fail
        refine (K3.out _).mono ?_
        rintro e w' ⟨rfl, rfl⟩
        go_wp2_with fail
        refine (K4.out _).mono ?_
        rintro e w' ⟨rfl, rfl⟩
        go_wp2_with fail
        refine (K5.out _).mono ?_
        rintro e w' ⟨rfl, rfl⟩
        go_wp2_with fail
        refine (K6.out _).mono ?_
        rintro e w' ⟨rfl, rfl⟩
        go_wp2_with fail
        refine (K7.out _).mono ?_
        rintro e w' ⟨rfl, rfl⟩
        go_wp2_with fail
        refine (K8.out _).mono ?_
        rintro e w' ⟨rfl, rfl⟩
        go_wp2_with fail
        refine (K3.out _).mono ?_
        rintro e w' ⟨rfl, rfl⟩
        go_wp2_with fail
        refine (K9.out _).mono ?_
        rintro e w' ⟨rfl, rfl⟩
        go_wp2_with fail
        refine (K2.out _).mono ?_
        rintro e w' ⟨rfl, rfl⟩
        go_wp2_with fail
        refine (K10.out _).mono ?_
        rintro e w' ⟨rfl, rfl⟩
        go_wp2_with fail
        refine (K11.out _).mono ?_
        rintro e w' ⟨rfl, rfl⟩
        go_wp2_with fail
        refine (HA.out).mono ?_
        rintro e w' ⟨rfl, rfl⟩
        go_wp2_with fail
        refine (HO.out).mono ?_
        rintro e w' ⟨rfl, rfl⟩
        go_wp2_with fail
        refine (HN.out).mono ?_
        rintro e w' ⟨rfl, rfl⟩
        go_wp2_with fail
        refine (HA.out).mono ?_
        rintro e w' ⟨rfl, rfl⟩
        go_wp2_with fail
        refine (K12.out _).mono ?_
        rintro e w' ⟨rfl, rfl⟩
        go_wp2
        go_ret
        exact ⟨rfl, B2.out.trans (BB.out.mono B2.out.size)⟩

set_option maxRecDepth 100000 in
theorem lifted (os : Os) (started : os.Started) (H : Type) (enc : TypeId × Value → H) :
    ReturnsInHanded {} Try.checked os 4 .any (Rows.fnLogicSpec.pre6 enc Try.prog Try.f4 Rows.fnLogicRow.domain false) (Rows.fnLogicSpec.post enc Try.prog Try.f4 false true false false) := by
  refine returnsInHanded_of_change (C := Try.checked) own started (by kernel_rfl) Try.func4
    (ChangeSpec.witness6 (enc := enc) (C := Try.checked) false ⟨#[], #[.slice none 0 0], []⟩ 8 (by kernel_rfl) (by kernel_rfl) (by kernel_rfl) (by kernel_rfl)) ?_
  intro W base args ds gs before hval0 hW hcnd _
  have hval : ∀ (j : Nat) t v, Try.f4.params[j]? = some t → args[j]? = some v → Value.okWide Try.prog W .any base t v := hval0
  have hW' := hW
  obtain ⟨p, q, hA0, hV, rfl, hfz, hnd⟩ := hW
  have hA : DataW.TrodAll enc Try.prog W 0 (fun _ => true) true Try.f4.params.toList args.toList ds p := hA0
  rw [Try.params4] at hA hval
  obtain ⟨v0, vs0, d0, ds0, p0, q0, hargs0, rfl, rfl, h0, r0⟩ := trodAll_cons hA
  obtain ⟨hnil, rfl, rfl⟩ := trodAll_nil r0
  have eargs : args.toList = [v0] := by rw [hargs0, hnil]
  obtain rfl : args = #[v0] := Array.toList_inj.1 eargs
  obtain ⟨rfl, rfl⟩ := trodVars_none hV
  have k0 := h0
  have lt0 : ∀ x ∈ p0, x.block < W.heap.size := by obtain ⟨m, hm⟩ := k0; exact DataW.trod_lt m _ _ _ hm
  clear hA0 eargs hargs0
  obtain ⟨a0, n0, cap0, rfl⟩ := okWide_slice Try.underlying22 (hval 0 22 v0 rfl rfl)
  have hs0 : CodeAt W.heap.size W a0 n0 := by
    obtain ⟨fuel, hf⟩ := h0
    exact bytes_inF hf
  clear hval0
  refine (walk a0 n0 cap0 W hs0).mono fun e W' ⟨he, bel⟩ => ?_
  subst he
  have kp0 := Below.trod laidOut (show Try.prog.readableRec 22 = true by kernel_rfl) (of_decide_eq_true (by kernel_rfl)) k0 bel lt0
  exact ⟨_, rfl, _, _, _, [], _, [], hW', trodAll_mk1 (shut_bool Try.underlying4 _), (trodAll_cons_mk kp0 trodAll_mk0), rfl, bel.frame _, fun h => by cases h⟩

theorem over : Rows.fnLogicRow.holds Try.pinned (OpenSpec.ofChange Rows.fnLogicSpec) :=
  OpenClaim.holds_of_wide 4 Try.f4 rfl rfl rfl rfl rfl rfl rfl ⟨rfl, rfl, rfl, rfl, rfl⟩ rfl rfl rfl rfl rfl (by kernel_rfl) Try.func4 (by kernel_rfl)
    (of_decide_eq_true (by kernel_rfl)) (by unfold Func.isWrapper; first | (rw [if_pos (by decide +kernel)]; kernel_rfl) | (rw [if_neg (by decide +kernel)]; exact ⟨rfl, rfl⟩))
    (fun os started H enc _ => lifted os started H enc)

theorem proved : Rows.FnLogicSaid := over
end Go.Proofs.Ytmglolpiekbnpaa.fnLogic
