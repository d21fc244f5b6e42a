/- ElementOf: the program, as a whole. -/
import Derived.Test.YtpekdmocgjjhnaaGreatRows
import Derived.Test.YtpekdmocgjjhnaaGreatMz2
import Derived.Test.YtpekdmocgjjhnaaGreatMz1
import Derived.Test.YtpekdmocgjjhnaaGreatVecCnt
import Derived.Test.YtpekdmocgjjhnaaGreatIsName
import Derived.Test.YtpekdmocgjjhnaaGreatVecStr
import Derived.WalkKit
import Derived.OwnWalk
import Derived.Deep.DeepCutAuto
import Derived.Lib.Hide
import Derived.Maps.AppendAt
import Derived.Deep.MidRow
namespace Go.Proofs.YtpekdmocgjjhnaaGreat
open Go.RowKit
set_option maxRecDepth 100000
set_option linter.unusedVariables false

theorem IntZ.blk {w0 w : World} {l : List Int} {g n c : Nat} (h : IntZ w0 w l (.slice (some ⟨g, 0, none⟩) n c)) (h0 : 0 < l.length) : ∃ C, w.heap[g]? = some (.cells C 3 (0, 0)) ∧ C[0]? = some (.int .i64 (l.getD 0 0)) := by
  obtain ⟨e, h1⟩ := (h.cell h0)
  obtain ⟨_, q⟩ := h.row
  rcases q with ⟨q, _⟩ | ⟨b, c', C, hs, _, hb, _⟩
  · cases q
  · cases hs
    refine ⟨C, hb, ?_⟩
    have e2 : (match w.heap[g]? with | some (.cells c _ _) => c[0]? | _ => none) = some (.int .i64 (l.getD 0 0)) := e
    rw [hb] at e2
    exact e2
set_option maxHeartbeats 8000000 in
theorem implElementOf (d d2 : Nat) (v s : Vec) (val vals : Value) (lo hi : Nat) (w : World) (hv : VecAt lo hi w d v val) (hs : VecAt lo hi w d2 s vals) (hhi : hi ≤ w.heap.size) (hsm : Small d v) (hsm2 : Small d2 s) :
    Calls Tryz.prog 13 #[val, vals] w (ResVS d (elV v s) (elS v s) w) := by
  have CR := Lib.hid (fun (W : World) (hb : Below w.heap.size w W) => implResolveIn d d2 v s val vals lo hi W (hv.below hb hhi) (hs.below hb hhi) (Nat.le_trans hhi hb.size) hsm hsm2)
  have LS := Lib.hid (fun (W : World) (hb : Below w.heap.size w W) => implLenW d2 s vals lo hi W (hs.below hb hhi) hsm2)
  have IP := Lib.hid (fun (z : Int) (W : World) (hb : Below w.heap.size w W) => implIsPos d v val lo hi W (hv.below hb hhi) (Nat.le_trans hhi hb.size) hsm z)
  have CE := Lib.hid (fun (h1 : ValidV v) (h5 : ¬ kindV v = 5) (j : Nat) (hj : j < lengthV v) (W : World) (hb : Below w.heap.size w W) => implElemV d v val lo hi W (hv.below hb hhi) (Nat.le_trans hhi hb.size) hsm h1 h5 j hj)
  obtain ⟨d', ed⟩ : ∃ d', d = d' + 1 := by
    cases v with
    | mk kk items parts names cls levels code env => obtain ⟨d', ai, ci, ap, cp, an, cn, ac, cc, al, cl, ed, _⟩ := vecAt_open hv; exact ⟨d', ed⟩
  subst ed
  have LL : lengthV v ≤ 2097153 := by
    cases v with
    | mk kk items parts names cls levels code env => show lenV kk items.length parts.length ≤ _; have h1 := hsm.1; have h2 := hsm.2.1; unfold lenV; split <;> omega
  have XB := Lib.hid (fun h => el_bad (v := v) (s := s) h)
  have XM := Lib.hid (fun h h1 => el_many (v := v) (s := s) h h1)
  have XO := Lib.hid (fun h h1 => el_one (v := v) (s := s) h h1)
  have XR := Lib.hid (fun h => rv_ok (v := v) (s := s) h)
  obtain ⟨vk, va1, vn1, vm1, va2, vn2, vm2, va3, vn3, vm3, va4, vn4, vm4, va5, vn5, vm5, vc, ve, rfl⟩ := hv.agg
  obtain ⟨sk, sa1, sn1, sm1, sa2, sn2, sm2, sa3, sn3, sm3, sa4, sn4, sm4, sa5, sn5, sm5, sc, se, rfl⟩ := hs.agg
  obtain ⟨EV, hEV⟩ : ∃ x, elV v s = x := ⟨_, rfl⟩
  obtain ⟨ES, hES⟩ : ∃ x, elS v s = x := ⟨_, rfl⟩
  obtain ⟨R, hR⟩ : ∃ x, rvS v s = x := ⟨_, rfl⟩
  obtain ⟨Z, hZ⟩ : ∃ x, rvZ v s = x := ⟨_, rfl⟩
  obtain ⟨M, hM⟩ : ∃ x, lengthV s = x := ⟨_, rfl⟩
  obtain ⟨L, hL⟩ : ∃ x, lengthV v = x := ⟨_, rfl⟩
  have OP := Lib.hid (show OneP v s ↔ (M = 1 ∧ Z.length = 1 ∧ 1 ≤ Z.getD 0 0 ∧ Z.getD 0 0 ≤ (L : Int)) by unfold OneP; rw [hZ, hM, hL])
  rw [hEV, hES] at XB XM XO ⊢
  rw [hR, hZ] at CR XO
  rw [hR] at XB XM XR
  rw [hM] at LS
  rw [hL] at IP CE LL
  clear hv hs hhi hsm hsm2 hEV hES hR hZ hM hL
  go_enter Tryz.func13, Tryz.ntmps13
  go_wp2_with fail
  obtain ⟨w1, hw1⟩ : ∃ W, ((w.alloc (.cells #[.int .i64 vk, .slice va1 vn1 vm1, .slice va2 vn2 vm2, .slice va3 vn3 vm3, .slice va4 vn4 vm4, .slice va5 vn5 vm5, .int .i64 vc, .int .i64 ve] 31)).alloc (.cells #[.int .i64 sk, .slice sa1 sn1 sm1, .slice sa2 sn2 sm2, .slice sa3 sn3 sm3, .slice sa4 sn4 sm4, .slice sa5 sn5 sm5, .int .i64 sc, .int .i64 se] 31)).alloc (.cells #[.int .i64 0, .slice none 0 0, .slice none 0 0, .slice none 0 0, .slice none 0 0, .slice none 0 0, .int .i64 0, .int .i64 0] 31) = W := ⟨_, rfl⟩
  have hsz : (w.alloc (.cells #[.int .i64 vk, .slice va1 vn1 vm1, .slice va2 vn2 vm2, .slice va3 vn3 vm3, .slice va4 vn4 vm4, .slice va5 vn5 vm5, .int .i64 vc, .int .i64 ve] 31)).heap.size = w.heap.size + 1 := by simp
  have hsz2 : ((w.alloc (.cells #[.int .i64 vk, .slice va1 vn1 vm1, .slice va2 vn2 vm2, .slice va3 vn3 vm3, .slice va4 vn4 vm4, .slice va5 vn5 vm5, .int .i64 vc, .int .i64 ve] 31)).alloc (.cells #[.int .i64 sk, .slice sa1 sn1 sm1, .slice sa2 sn2 sm2, .slice sa3 sn3 sm3, .slice sa4 sn4 sm4, .slice sa5 sn5 sm5, .int .i64 sc, .int .i64 se] 31)).heap.size = w.heap.size + 1 + 1 := by simp
  have B1 := Lib.hid (show Below w.heap.size w w1 from hw1 ▸ ((below1 w _).alloc (by simp) _).alloc (by simp; omega) _)
  have KA := Lib.hid (show w1.heap[w.heap.size]? = some (.cells #[.int .i64 vk, .slice va1 vn1 vm1, .slice va2 vn2 vm2, .slice va3 vn3 vm3, .slice va4 vn4 vm4, .slice va5 vn5 vm5, .int .i64 vc, .int .i64 ve] 31 (0, 0)) from hw1 ▸ blk_old (blk_old (blk_new w _ rfl)))
  have KB := Lib.hid (show w1.heap[w.heap.size + 1]? = some (.cells #[.int .i64 sk, .slice sa1 sn1 sm1, .slice sa2 sn2 sm2, .slice sa3 sn3 sm3, .slice sa4 sn4 sm4, .slice sa5 sn5 sm5, .int .i64 sc, .int .i64 se] 31 (0, 0)) from hw1 ▸ blk_old (hsz ▸ blk_new (w.alloc (.cells #[.int .i64 vk, .slice va1 vn1 vm1, .slice va2 vn2 vm2, .slice va3 vn3 vm3, .slice va4 vn4 vm4, .slice va5 vn5 vm5, .int .i64 vc, .int .i64 ve] 31)) (.cells #[.int .i64 sk, .slice sa1 sn1 sm1, .slice sa2 sn2 sm2, .slice sa3 sn3 sm3, .slice sa4 sn4 sm4, .slice sa5 sn5 sm5, .int .i64 sc, .int .i64 se] 31) rfl))
  have KR := Lib.hid (show w1.heap[w.heap.size + 1 + 1]? = some (.cells #[.int .i64 0, .slice none 0 0, .slice none 0 0, .slice none 0 0, .slice none 0 0, .slice none 0 0, .int .i64 0, .int .i64 0] 31 (0, 0)) from hw1 ▸ hsz2 ▸ blk_new ((w.alloc (.cells #[.int .i64 vk, .slice va1 vn1 vm1, .slice va2 vn2 vm2, .slice va3 vn3 vm3, .slice va4 vn4 vm4, .slice va5 vn5 vm5, .int .i64 vc, .int .i64 ve] 31)).alloc (.cells #[.int .i64 sk, .slice sa1 sn1 sm1, .slice sa2 sn2 sm2, .slice sa3 sn3 sm3, .slice sa4 sn4 sm4, .slice sa5 sn5 sm5, .int .i64 sc, .int .i64 se] 31)) (.cells #[.int .i64 0, .slice none 0 0, .slice none 0 0, .slice none 0 0, .slice none 0 0, .slice none 0 0, .int .i64 0, .int .i64 0] 31) rfl)
  have Z1 := Lib.hid (show w1.heap.size = w.heap.size + 1 + 1 + 1 from hw1 ▸ (by simp))
  rw [hw1]
  clear hw1 hsz hsz2
  refine (CR.out _ B1.out).mono ?_
  rintro e w2 ⟨v5, rfl, hz⟩
  have KA := Lib.hid (blk_below hz.below KA.out)
  have KB := Lib.hid (blk_below hz.below KB.out)
  have KR := Lib.hid (blk_below hz.below KR.out)
  have B2 := Lib.hid (below_then B1.out hz.below)
  by_cases hR : R = ⟨#[]⟩
  · have XM2 := Lib.hid (fun h1 => XM.out hR h1)
    have XO2 := Lib.hid (fun h1 => XO.out hR h1)
    obtain ⟨hval, h5⟩ := XR.out hR
    have CE := Lib.hid (fun j hj => CE.out hval h5 j hj)
    obtain ⟨sa, c, rfl, hi'⟩ := hz.ints
    have HZ := Lib.hid hz
    subst hR
    clear hval h5 hi' hz XB XR CR XM XO
    have XM := XM2
    have XO := XO2
    clear XM2 XO2
    by_cases hm : M = 1
    · by_cases hn : Z.length = 1
      · obtain ⟨g, c', e, hg0, hg1⟩ := HZ.out.parts (by omega)
        cases e
        have GL := Lib.hid hg1
        have GG := Lib.hid (show w.heap.size + 1 + 1 + 1 ≤ g from Z1.out ▸ hg0)
        obtain ⟨gc, _⟩ := HZ.out.cell (k := 0) (by omega)
        have GC := Lib.hid (show w2.cell? ⟨g, 0 + 0, none⟩ = some (.int .i64 (Z.getD 0 0)) from gc)
        have IP := Lib.hid (IP.out (Z.getD 0 0))
        obtain ⟨z, hz⟩ : ∃ x, Z.getD 0 0 = x := ⟨_, rfl⟩
        rw [hz] at OP
        rw [hz] at IP GC
        rw [hn] at HZ ⊢
        rw [hz] at XO
        by_cases hp : 1 ≤ z ∧ z ≤ (L : Int)
        · obtain ⟨j, rfl⟩ : ∃ j : Nat, z = (j : Int) + 1 := ⟨(z - 1).toNat, by omega⟩
          have hj : j < L := by omega
          have XX := Lib.hid (by have h := XO.out (OP.out.2 ⟨hm, hn, hp⟩); rw [show ((j : Int) + 1 - 1).toNat = j by omega] at h; exact h : EV = elmV v j ∧ ES = ⟨#[]⟩)
          have CE := Lib.hid (CE.out j hj)
          have IP := Lib.hid (by rw [bB_yes hp] at IP; exact IP.out : ∀ (W : World), Below w.heap.size w W → Calls Tryz.prog 41 #[.agg #[.int .i64 vk, .slice va1 vn1 vm1, .slice va2 vn2 vm2, .slice va3 vn3 vm3, .slice va4 vn4 vm4, .slice va5 vn5 vm5, .int .i64 vc, .int .i64 ve], .int .i64 ((j : Int) + 1)] W fun e w' => e = .returned (.bool true) ∧ Below W.heap.size W w')
          have BJ := Lib.hid (show j < 2097153 by omega)
          have ZN := Lib.hid hn
          have ZZ := Lib.hid hz
          clear hg0 hg1 gc XM OP hp hj LL hn hz
          go_upto_region 4 with (fail)
          have NR := Lib.hid (⟨KR.out⟩ : NewB (w.heap.size + 1 + 1) 31 #[.int .i64 0, .slice none 0 0, .slice none 0 0, .slice none 0 0, .slice none 0 0, .slice none 0 0, .int .i64 0, .int .i64 0] w2)
          have H := Lib.hid (show HeldC w2 w2 ([(w.heap.size, 31, #[.int .i64 vk, .slice va1 vn1 vm1, .slice va2 vn2 vm2, .slice va3 vn3 vm3, .slice va4 vn4 vm4, .slice va5 vn5 vm5, .int .i64 vc, .int .i64 ve]), (w.heap.size + 1, 31, #[.int .i64 sk, .slice sa1 sn1 sm1, .slice sa2 sn2 sm2, .slice sa3 sn3 sm3, .slice sa4 sn4 sm4, .slice sa5 sn5 sm5, .int .i64 sc, .int .i64 se])]) from heldC_two (Below.refl _ _) KA.out KB.out)
          refine run_regionT (ops := (opsOf Tryz.f13 4)) (S := fun w' => HeldC w2 w' ([(w.heap.size, 31, #[.int .i64 vk, .slice va1 vn1 vm1, .slice va2 vn2 vm2, .slice va3 vn3 vm3, .slice va4 vn4 vm4, .slice va5 vn5 vm5, .int .i64 vc, .int .i64 ve]), ((w.heap.size + 1), 31, #[.int .i64 sk, .slice sa1 sn1 sm1, .slice sa2 sn2 sm2, .slice sa3 sn3 sm3, .slice sa4 sn4 sm4, .slice sa5 sn5 sm5, .int .i64 sc, .int .i64 se])])) (.leaf [(0, true), (1, false), (2, true), (3, true), (4, true), (5, true), (6, true), (7, true), (8, true), (9, true), (10, true), (11, true), (12, true), (13, false), (14, true), (15, true), (16, true)]) (by kernel_rfl) (by kernel_rfl) (by kernel_rfl) (by kernel_rfl) (by kernel_rfl) (fun _ _ _ _ _ h => h) (heldC_drew H.out) ?_
          have H := Lib.hid (heldC_drew H.out)
          have NR := Lib.hid (NR.out.keep (below_drew' (Below.refl _ _)))
          have HZ := Lib.hid (HZ.out.keep (below_drew' (Below.refl _ _)))
          refine runC_vec (b := (w.heap.size + 1)) (show opAt (opsOf Tryz.f13 4) 0 = some (some 20, .load 31 (.tmp 3), none) from by kernel_rfl) (by kernel_rfl) (by kernel_rfl) (by kernel_rfl) (List.Mem.tail _ (List.Mem.head _)) ?_
          refine run_call (args := [.agg #[.int .i64 sk, .slice sa1 sn1 sm1, .slice sa2 sn2 sm2, .slice sa3 sn3 sm3, .slice sa4 sn4 sm4, .slice sa5 sn5 sm5, .int .i64 sc, .int .i64 se]]) (show opAt (opsOf Tryz.f13 4) 1 = some (some 21, .call { callee := .value (.func 40), args := [(.tmp 20)].toArray, argTypes := [31].toArray }, none) from by kernel_rfl) (by kernel_rfl) (by kernel_rfl) (by kernel_rfl) (by kernel_rfl) ?_
          refine (LS.out _ (below_then B2.out H.out.1)).mono ?_
          rintro en rw1 ⟨rfl, hb⟩
          refine ⟨_, rfl, heldC_call H.out hb, ?_⟩
          have H := Lib.hid (heldC_call H.out hb)
          have NR := Lib.hid (NR.out.keep hb)
          have HZ := Lib.hid (HZ.out.keep hb)
          clear hb
          refine run_cmp (k := .i64) (p := (M : Int)) (q := 1) (b := false) (show opAt (opsOf Tryz.f13 4) 2 = some (some 22, .binOp .neq 3 (.tmp 21) (.const (.int .i64 1)) 3, none) from by kernel_rfl) (by kernel_rfl) (by kernel_rfl) (by kernel_rfl) (by kernel_rfl) (congrArg some (bne_eq_false_iff_eq.2 (by omega))) ?_
          refine run_mov (v := .bool false) (show opAt (opsOf Tryz.f13 4) 3 = some (some 23, .move (.tmp 22), none) from by kernel_rfl) (by kernel_rfl) (by kernel_rfl) (by kernel_rfl) ?_
          refine run_mov (v := .slice (some ⟨g, 0, none⟩) 1 c) (show opAt (opsOf Tryz.f13 4) 4 = some (some 24, .move (.tmp 6), some (3, false)) from by kernel_rfl) (by kernel_rfl) (by kernel_rfl) (by kernel_rfl) ?_
          refine run_len (b := (some ⟨g, 0, none⟩)) (n := 1) (c := c) (show opAt (opsOf Tryz.f13 4) 5 = some (some 25, .call { callee := .builtin .len, args := [(.tmp 24)].toArray, argTypes := [43].toArray }, some (3, false)) from by kernel_rfl) (by kernel_rfl) (by kernel_rfl) (by kernel_rfl) (by kernel_rfl) ?_
          refine run_cmp (k := .i64) (p := 1) (q := 1) (b := false) (show opAt (opsOf Tryz.f13 4) 6 = some (some 26, .binOp .neq 3 (.tmp 25) (.const (.int .i64 1)) 3, some (3, false)) from by kernel_rfl) (by kernel_rfl) (by kernel_rfl) (by kernel_rfl) (by kernel_rfl) (congrArg some (bne_eq_false_iff_eq.2 rfl)) ?_
          refine run_pick (b := false) (v := .bool false) (show opAt (opsOf Tryz.f13 4) 7 = some (some 27, .pick (.tmp 23) (.const (.bool true)) (.tmp 26), none) from by kernel_rfl) (by kernel_rfl) (by kernel_rfl) (by kernel_rfl) (by kernel_rfl) ?_
          refine run_mov (v := .bool false) (show opAt (opsOf Tryz.f13 4) 8 = some (some 28, .move (.tmp 27), none) from by kernel_rfl) (by kernel_rfl) (by kernel_rfl) (by kernel_rfl) ?_
          refine runC_vec (b := w.heap.size) (show opAt (opsOf Tryz.f13 4) 9 = some (some 29, .load 31 (.tmp 2), some (8, false)) from by kernel_rfl) (by kernel_rfl) (by kernel_rfl) (by kernel_rfl) (List.Mem.head _) ?_
          refine run_mov (v := .slice (some ⟨g, 0, none⟩) 1 c) (show opAt (opsOf Tryz.f13 4) 10 = some (some 30, .move (.tmp 6), some (8, false)) from by kernel_rfl) (by kernel_rfl) (by kernel_rfl) (by kernel_rfl) ?_
          refine run_idx1 (n := 1) (c := c) (b := g) (off := 0) (k := 0) (show opAt (opsOf Tryz.f13 4) 11 = some (some 31, .indexAddr 43 (.tmp 30) (.const (.int .i64 0)), some (8, false)) from by kernel_rfl) (by kernel_rfl) (by kernel_rfl) (by kernel_rfl) (by kernel_rfl) (by omega) Tryz.underlying43 (by kernel_rfl) infoInt ?_
          refine runC_old (b := g) (j := 0 + 0) (v := .int .i64 (((j : Int) + 1))) load_int (show opAt (opsOf Tryz.f13 4) 12 = some (some 32, .load 3 (.tmp 31), some (8, false)) from by kernel_rfl) (by kernel_rfl) (by kernel_rfl) (by kernel_rfl) GL.out GC.out ?_
          refine run_call (args := [.agg #[.int .i64 vk, .slice va1 vn1 vm1, .slice va2 vn2 vm2, .slice va3 vn3 vm3, .slice va4 vn4 vm4, .slice va5 vn5 vm5, .int .i64 vc, .int .i64 ve], .int .i64 (((j : Int) + 1))]) (show opAt (opsOf Tryz.f13 4) 13 = some (some 33, .call { callee := .value (.func 41), args := [(.tmp 29), (.tmp 32)].toArray, argTypes := [31, 3].toArray }, some (8, false)) from by kernel_rfl) (by kernel_rfl) (by kernel_rfl) (by kernel_rfl) (by kernel_rfl) ?_
          refine (IP.out _ (below_then B2.out H.out.1)).mono ?_
          rintro en rw2 ⟨rfl, hb⟩
          refine ⟨_, rfl, heldC_call H.out hb, ?_⟩
          have H := Lib.hid (heldC_call H.out hb)
          have NR := Lib.hid (NR.out.keep hb)
          have HZ := Lib.hid (HZ.out.keep hb)
          clear hb
          refine run_not (b := true) (show opAt (opsOf Tryz.f13 4) 14 = some (some 34, .unOp .not 4 (.tmp 33), some (8, false)) from by kernel_rfl) (by kernel_rfl) (by kernel_rfl) (by kernel_rfl) ?_
          refine run_pick (b := false) (v := .bool false) (show opAt (opsOf Tryz.f13 4) 15 = some (some 35, .pick (.tmp 28) (.const (.bool true)) (.tmp 34), none) from by kernel_rfl) (by kernel_rfl) (by kernel_rfl) (by kernel_rfl) (by kernel_rfl) ?_
          refine run_asg (v := .bool false) (show opAt (opsOf Tryz.f13 4) 16 = some (some 19, .assign (.tmp 35), none) from by kernel_rfl) (by kernel_rfl) (by kernel_rfl) (by kernel_rfl) ?_
          refine run_done ?_
          simp only [putAll, Act.put, List.setIfInBounds_toArray, List.set_cons_zero, List.set_cons_succ]
          have B4 := Lib.hid (below_then B2.out H.out.1)
          obtain ⟨CP, kp, cc⟩ := HZ.out.blk (by rw [ZN.out]; omega)
          have CC := Lib.hid (show CP[0 + 0]? = some (.int .i64 ((j : Int) + 1)) from ZZ.out ▸ cc)
          have KP := Lib.hid kp
          clear cc kp
          go_upto_region 6 with (fail)
          have H := Lib.hid (show HeldC w _ ([(w.heap.size, 31, #[.int .i64 vk, .slice va1 vn1 vm1, .slice va2 vn2 vm2, .slice va3 vn3 vm3, .slice va4 vn4 vm4, .slice va5 vn5 vm5, .int .i64 vc, .int .i64 ve]), (g, 3, CP)]) from heldC_two B4.out (heldC_at H.out (List.Mem.head _)) KP.out)
          refine run_regionT (ops := (opsOf Tryz.f13 6)) (S := fun w' => HeldC w w' ([(w.heap.size, 31, #[.int .i64 vk, .slice va1 vn1 vm1, .slice va2 vn2 vm2, .slice va3 vn3 vm3, .slice va4 vn4 vm4, .slice va5 vn5 vm5, .int .i64 vc, .int .i64 ve]), (g, 3, CP)])) (.leaf [(0, true), (1, true), (2, true), (3, true), (4, true), (5, false), (6, false), (7, true)]) (by kernel_rfl) (by kernel_rfl) (by kernel_rfl) (by kernel_rfl) (by kernel_rfl) (fun _ _ _ _ _ h => h) (heldC_drew H.out) ?_
          have H := Lib.hid (heldC_drew H.out)
          have NR := Lib.hid (NR.out.keep (below_drew' (Below.refl _ _)))
          refine runC_vec (b := w.heap.size) (show opAt (opsOf Tryz.f13 6) 0 = some (some 37, .load 31 (.tmp 2), none) from by kernel_rfl) (by kernel_rfl) (by kernel_rfl) (by kernel_rfl) (List.Mem.head _) ?_
          refine run_mov (v := .slice (some ⟨g, 0, none⟩) 1 c) (show opAt (opsOf Tryz.f13 6) 1 = some (some 38, .move (.tmp 6), none) from by kernel_rfl) (by kernel_rfl) (by kernel_rfl) (by kernel_rfl) ?_
          refine run_idx1 (n := 1) (c := c) (b := g) (off := 0) (k := 0) (show opAt (opsOf Tryz.f13 6) 2 = some (some 39, .indexAddr 43 (.tmp 38) (.const (.int .i64 0)), none) from by kernel_rfl) (by kernel_rfl) (by kernel_rfl) (by kernel_rfl) (by kernel_rfl) (by omega) Tryz.underlying43 (by kernel_rfl) infoInt ?_
          refine runC_cell (b := g) (j := 0 + 0) (v := .int .i64 (((j : Int) + 1))) load_int (show opAt (opsOf Tryz.f13 6) 3 = some (some 40, .load 3 (.tmp 39), none) from by kernel_rfl) (by kernel_rfl) (by kernel_rfl) (by kernel_rfl) (List.Mem.tail _ (List.Mem.head _)) CC.out ?_
          refine run_sub (k := .i64) (p := ((j : Int) + 1)) (q := 1) (z := (j : Int)) (show opAt (opsOf Tryz.f13 6) 4 = some (some 41, .binOp .sub 3 (.tmp 40) (.const (.int .i64 1)) 3, none) from by kernel_rfl) (by kernel_rfl) (by kernel_rfl) (by kernel_rfl) (by kernel_rfl) ((wrap64_id (by have := BJ.out; omega) (by have := BJ.out; omega)).trans (by omega)) ?_
          refine run_call (args := [.agg #[.int .i64 vk, .slice va1 vn1 vm1, .slice va2 vn2 vm2, .slice va3 vn3 vm3, .slice va4 vn4 vm4, .slice va5 vn5 vm5, .int .i64 vc, .int .i64 ve], .int .i64 ((j : Int))]) (show opAt (opsOf Tryz.f13 6) 5 = some (some 42, .call { callee := .value (.func 42), args := [(.tmp 37), (.tmp 41)].toArray, argTypes := [31, 3].toArray }, none) from by kernel_rfl) (by kernel_rfl) (by kernel_rfl) (by kernel_rfl) (by kernel_rfl) ?_
          refine (CE.out _ H.out.1).mono ?_
          rintro en rw1 ⟨yu, rfl, ho, hb⟩
          refine ⟨_, rfl, heldC_call H.out hb, ?_⟩
          obtain ⟨yuk, yua1, yun1, yum1, yua2, yun2, yum2, yua3, yun3, yum3, yua4, yun4, yum4, yua5, yun5, yum5, yuc, yue, rfl⟩ := ho.agg
          have UB := Lib.hid (Array.getElem?_eq_some_iff.1 NR.out.out).1
          have LU := Lib.hid H.out.1.size
          have H := Lib.hid (heldC_call H.out hb)
          have NR := Lib.hid (NR.out.keep hb)
          have OU := Lib.hid ho
          clear ho hb
          refine run_store (w' := World.setRow _ (w.heap.size + 1 + 1) #[.int .i64 yuk, .slice yua1 yun1 yum1, .slice yua2 yun2 yum2, .slice yua3 yun3 yum3, .slice yua4 yun4 yum4, .slice yua5 yun5 yum5, .int .i64 yuc, .int .i64 yue]) (show opAt (opsOf Tryz.f13 6) 6 = some (none, .store 31 (.tmp 4) (.tmp 42), none) from by kernel_rfl) (by kernel_rfl) (by kernel_rfl) (by kernel_rfl) (store_vec8 NR.out.out (by simp [Value.oneCell'])) (⟨below_row H.out.1 (by omega) _, fun q hq => row_old (H.out.2 q hq) (by have := GG.out; rcases List.mem_cons.1 hq with rfl | hq; (simp only; omega); obtain rfl := List.mem_singleton.1 hq; simp only; omega)⟩) ?_
          refine run_asg (v := .string ⟨#[]⟩) (show opAt (opsOf Tryz.f13 6) 7 = some (some 5, .assign (.const (.string ⟨#[]⟩)), none) from by kernel_rfl) (by kernel_rfl) (by kernel_rfl) (by kernel_rfl) ?_
          refine run_done ?_
          simp only [putAll, Act.put, List.setIfInBounds_toArray, List.set_cons_zero, List.set_cons_succ]
          go_wp2
          rw [XX.out.1, XX.out.2]
          exact vec_ret0S rfl rfl rfl rfl (row_set NR.out.out) ⟨_, rfl, (OU.out.rowO (.inl UB.out)).wide LU.out (row_size _ _ _), below_row H.out.1 (by omega) _⟩
        · have XX := Lib.hid (XM.out (fun h => hp (OP.out.1 h).2.2))
          have IP := Lib.hid (by rw [bB_no hp] at IP; exact IP.out : ∀ (W : World), Below w.heap.size w W → Calls Tryz.prog 41 #[.agg #[.int .i64 vk, .slice va1 vn1 vm1, .slice va2 vn2 vm2, .slice va3 vn3 vm3, .slice va4 vn4 vm4, .slice va5 vn5 vm5, .int .i64 vc, .int .i64 ve], .int .i64 z] W fun e w' => e = .returned (.bool false) ∧ Below W.heap.size W w')
          clear hg0 hg1 gc XM XO OP hp LL hn hz CE HZ
          go_upto_region 4 with (fail)
          have NR := Lib.hid (⟨KR.out⟩ : NewB (w.heap.size + 1 + 1) 31 #[.int .i64 0, .slice none 0 0, .slice none 0 0, .slice none 0 0, .slice none 0 0, .slice none 0 0, .int .i64 0, .int .i64 0] w2)
          have H := Lib.hid (show HeldC w2 w2 ([(w.heap.size, 31, #[.int .i64 vk, .slice va1 vn1 vm1, .slice va2 vn2 vm2, .slice va3 vn3 vm3, .slice va4 vn4 vm4, .slice va5 vn5 vm5, .int .i64 vc, .int .i64 ve]), (w.heap.size + 1, 31, #[.int .i64 sk, .slice sa1 sn1 sm1, .slice sa2 sn2 sm2, .slice sa3 sn3 sm3, .slice sa4 sn4 sm4, .slice sa5 sn5 sm5, .int .i64 sc, .int .i64 se])]) from heldC_two (Below.refl _ _) KA.out KB.out)
          refine run_regionT (ops := (opsOf Tryz.f13 4)) (S := fun w' => HeldC w2 w' ([(w.heap.size, 31, #[.int .i64 vk, .slice va1 vn1 vm1, .slice va2 vn2 vm2, .slice va3 vn3 vm3, .slice va4 vn4 vm4, .slice va5 vn5 vm5, .int .i64 vc, .int .i64 ve]), ((w.heap.size + 1), 31, #[.int .i64 sk, .slice sa1 sn1 sm1, .slice sa2 sn2 sm2, .slice sa3 sn3 sm3, .slice sa4 sn4 sm4, .slice sa5 sn5 sm5, .int .i64 sc, .int .i64 se])])) (.leaf [(0, true), (1, false), (2, true), (3, true), (4, true), (5, true), (6, true), (7, true), (8, true), (9, true), (10, true), (11, true), (12, true), (13, false), (14, true), (15, true), (16, true)]) (by kernel_rfl) (by kernel_rfl) (by kernel_rfl) (by kernel_rfl) (by kernel_rfl) (fun _ _ _ _ _ h => h) (heldC_drew H.out) ?_
          have H := Lib.hid (heldC_drew H.out)
          have NR := Lib.hid (NR.out.keep (below_drew' (Below.refl _ _)))
          refine runC_vec (b := (w.heap.size + 1)) (show opAt (opsOf Tryz.f13 4) 0 = some (some 20, .load 31 (.tmp 3), none) from by kernel_rfl) (by kernel_rfl) (by kernel_rfl) (by kernel_rfl) (List.Mem.tail _ (List.Mem.head _)) ?_
          refine run_call (args := [.agg #[.int .i64 sk, .slice sa1 sn1 sm1, .slice sa2 sn2 sm2, .slice sa3 sn3 sm3, .slice sa4 sn4 sm4, .slice sa5 sn5 sm5, .int .i64 sc, .int .i64 se]]) (show opAt (opsOf Tryz.f13 4) 1 = some (some 21, .call { callee := .value (.func 40), args := [(.tmp 20)].toArray, argTypes := [31].toArray }, none) from by kernel_rfl) (by kernel_rfl) (by kernel_rfl) (by kernel_rfl) (by kernel_rfl) ?_
          refine (LS.out _ (below_then B2.out H.out.1)).mono ?_
          rintro en rw1 ⟨rfl, hb⟩
          refine ⟨_, rfl, heldC_call H.out hb, ?_⟩
          have H := Lib.hid (heldC_call H.out hb)
          have NR := Lib.hid (NR.out.keep hb)
          clear hb
          refine run_cmp (k := .i64) (p := (M : Int)) (q := 1) (b := false) (show opAt (opsOf Tryz.f13 4) 2 = some (some 22, .binOp .neq 3 (.tmp 21) (.const (.int .i64 1)) 3, none) from by kernel_rfl) (by kernel_rfl) (by kernel_rfl) (by kernel_rfl) (by kernel_rfl) (congrArg some (bne_eq_false_iff_eq.2 (by omega))) ?_
          refine run_mov (v := .bool false) (show opAt (opsOf Tryz.f13 4) 3 = some (some 23, .move (.tmp 22), none) from by kernel_rfl) (by kernel_rfl) (by kernel_rfl) (by kernel_rfl) ?_
          refine run_mov (v := .slice (some ⟨g, 0, none⟩) 1 c) (show opAt (opsOf Tryz.f13 4) 4 = some (some 24, .move (.tmp 6), some (3, false)) from by kernel_rfl) (by kernel_rfl) (by kernel_rfl) (by kernel_rfl) ?_
          refine run_len (b := (some ⟨g, 0, none⟩)) (n := 1) (c := c) (show opAt (opsOf Tryz.f13 4) 5 = some (some 25, .call { callee := .builtin .len, args := [(.tmp 24)].toArray, argTypes := [43].toArray }, some (3, false)) from by kernel_rfl) (by kernel_rfl) (by kernel_rfl) (by kernel_rfl) (by kernel_rfl) ?_
          refine run_cmp (k := .i64) (p := 1) (q := 1) (b := false) (show opAt (opsOf Tryz.f13 4) 6 = some (some 26, .binOp .neq 3 (.tmp 25) (.const (.int .i64 1)) 3, some (3, false)) from by kernel_rfl) (by kernel_rfl) (by kernel_rfl) (by kernel_rfl) (by kernel_rfl) (congrArg some (bne_eq_false_iff_eq.2 rfl)) ?_
          refine run_pick (b := false) (v := .bool false) (show opAt (opsOf Tryz.f13 4) 7 = some (some 27, .pick (.tmp 23) (.const (.bool true)) (.tmp 26), none) from by kernel_rfl) (by kernel_rfl) (by kernel_rfl) (by kernel_rfl) (by kernel_rfl) ?_
          refine run_mov (v := .bool false) (show opAt (opsOf Tryz.f13 4) 8 = some (some 28, .move (.tmp 27), none) from by kernel_rfl) (by kernel_rfl) (by kernel_rfl) (by kernel_rfl) ?_
          refine runC_vec (b := w.heap.size) (show opAt (opsOf Tryz.f13 4) 9 = some (some 29, .load 31 (.tmp 2), some (8, false)) from by kernel_rfl) (by kernel_rfl) (by kernel_rfl) (by kernel_rfl) (List.Mem.head _) ?_
          refine run_mov (v := .slice (some ⟨g, 0, none⟩) 1 c) (show opAt (opsOf Tryz.f13 4) 10 = some (some 30, .move (.tmp 6), some (8, false)) from by kernel_rfl) (by kernel_rfl) (by kernel_rfl) (by kernel_rfl) ?_
          refine run_idx1 (n := 1) (c := c) (b := g) (off := 0) (k := 0) (show opAt (opsOf Tryz.f13 4) 11 = some (some 31, .indexAddr 43 (.tmp 30) (.const (.int .i64 0)), some (8, false)) from by kernel_rfl) (by kernel_rfl) (by kernel_rfl) (by kernel_rfl) (by kernel_rfl) (by omega) Tryz.underlying43 (by kernel_rfl) infoInt ?_
          refine runC_old (b := g) (j := 0 + 0) (v := .int .i64 z) load_int (show opAt (opsOf Tryz.f13 4) 12 = some (some 32, .load 3 (.tmp 31), some (8, false)) from by kernel_rfl) (by kernel_rfl) (by kernel_rfl) (by kernel_rfl) GL.out GC.out ?_
          refine run_call (args := [.agg #[.int .i64 vk, .slice va1 vn1 vm1, .slice va2 vn2 vm2, .slice va3 vn3 vm3, .slice va4 vn4 vm4, .slice va5 vn5 vm5, .int .i64 vc, .int .i64 ve], .int .i64 z]) (show opAt (opsOf Tryz.f13 4) 13 = some (some 33, .call { callee := .value (.func 41), args := [(.tmp 29), (.tmp 32)].toArray, argTypes := [31, 3].toArray }, some (8, false)) from by kernel_rfl) (by kernel_rfl) (by kernel_rfl) (by kernel_rfl) (by kernel_rfl) ?_
          refine (IP.out _ (below_then B2.out H.out.1)).mono ?_
          rintro en rw2 ⟨rfl, hb⟩
          refine ⟨_, rfl, heldC_call H.out hb, ?_⟩
          have H := Lib.hid (heldC_call H.out hb)
          have NR := Lib.hid (NR.out.keep hb)
          clear hb
          refine run_not (b := false) (show opAt (opsOf Tryz.f13 4) 14 = some (some 34, .unOp .not 4 (.tmp 33), some (8, false)) from by kernel_rfl) (by kernel_rfl) (by kernel_rfl) (by kernel_rfl) ?_
          refine run_pick (b := false) (v := .bool true) (show opAt (opsOf Tryz.f13 4) 15 = some (some 35, .pick (.tmp 28) (.const (.bool true)) (.tmp 34), none) from by kernel_rfl) (by kernel_rfl) (by kernel_rfl) (by kernel_rfl) (by kernel_rfl) ?_
          refine run_asg (v := .bool true) (show opAt (opsOf Tryz.f13 4) 16 = some (some 19, .assign (.tmp 35), none) from by kernel_rfl) (by kernel_rfl) (by kernel_rfl) (by kernel_rfl) ?_
          refine run_done ?_
          simp only [putAll, Act.put, List.setIfInBounds_toArray, List.set_cons_zero, List.set_cons_succ]
          have KR := Lib.hid NR.out.out
          have B4 := Lib.hid (below_then B2.out H.out.1)
          obtain ⟨z0, z1, z2, z3, z4, z5, z6, z7⟩ := vec8 KR.out
          obtain ⟨f0, f1, f2, f3, f4, f5, f6, f7⟩ := free8 KR.out
          go_wp2
          rw [XX.out.1, XX.out.2]
          exact vec_endS rfl rfl rfl rfl KR.out (zeroSD _ _ w _ (put8_below B4.out (by omega)))
      · have XX := Lib.hid (XM.out (fun h => hn (OP.out.1 h).2.1))
        obtain ⟨N, hN⟩ : ∃ x, Z.length = x := ⟨_, rfl⟩
        rw [hN] at hn ⊢
        clear XM XO OP LL IP CE HZ hN
        go_upto_region 4 with (fail)
        have NR := Lib.hid (⟨KR.out⟩ : NewB (w.heap.size + 1 + 1) 31 #[.int .i64 0, .slice none 0 0, .slice none 0 0, .slice none 0 0, .slice none 0 0, .slice none 0 0, .int .i64 0, .int .i64 0] w2)
        have H := Lib.hid (show HeldC w2 w2 ([(w.heap.size, 31, #[.int .i64 vk, .slice va1 vn1 vm1, .slice va2 vn2 vm2, .slice va3 vn3 vm3, .slice va4 vn4 vm4, .slice va5 vn5 vm5, .int .i64 vc, .int .i64 ve]), (w.heap.size + 1, 31, #[.int .i64 sk, .slice sa1 sn1 sm1, .slice sa2 sn2 sm2, .slice sa3 sn3 sm3, .slice sa4 sn4 sm4, .slice sa5 sn5 sm5, .int .i64 sc, .int .i64 se])]) from heldC_two (Below.refl _ _) KA.out KB.out)
        refine run_regionT (ops := (opsOf Tryz.f13 4)) (S := fun w' => HeldC w2 w' ([(w.heap.size, 31, #[.int .i64 vk, .slice va1 vn1 vm1, .slice va2 vn2 vm2, .slice va3 vn3 vm3, .slice va4 vn4 vm4, .slice va5 vn5 vm5, .int .i64 vc, .int .i64 ve]), ((w.heap.size + 1), 31, #[.int .i64 sk, .slice sa1 sn1 sm1, .slice sa2 sn2 sm2, .slice sa3 sn3 sm3, .slice sa4 sn4 sm4, .slice sa5 sn5 sm5, .int .i64 sc, .int .i64 se])])) (.leaf [(0, true), (1, false), (2, true), (3, true), (4, true), (5, true), (6, true), (7, true), (8, true), (9, true), (10, true), (11, true), (12, true), (13, false), (14, true), (15, true), (16, true)]) (by kernel_rfl) (by kernel_rfl) (by kernel_rfl) (by kernel_rfl) (by kernel_rfl) (fun _ _ _ _ _ h => h) (heldC_drew H.out) ?_
        have H := Lib.hid (heldC_drew H.out)
        have NR := Lib.hid (NR.out.keep (below_drew' (Below.refl _ _)))
        refine runC_vec (b := (w.heap.size + 1)) (show opAt (opsOf Tryz.f13 4) 0 = some (some 20, .load 31 (.tmp 3), none) from by kernel_rfl) (by kernel_rfl) (by kernel_rfl) (by kernel_rfl) (List.Mem.tail _ (List.Mem.head _)) ?_
        refine run_call (args := [.agg #[.int .i64 sk, .slice sa1 sn1 sm1, .slice sa2 sn2 sm2, .slice sa3 sn3 sm3, .slice sa4 sn4 sm4, .slice sa5 sn5 sm5, .int .i64 sc, .int .i64 se]]) (show opAt (opsOf Tryz.f13 4) 1 = some (some 21, .call { callee := .value (.func 40), args := [(.tmp 20)].toArray, argTypes := [31].toArray }, none) from by kernel_rfl) (by kernel_rfl) (by kernel_rfl) (by kernel_rfl) (by kernel_rfl) ?_
        refine (LS.out _ (below_then B2.out H.out.1)).mono ?_
        rintro en rw1 ⟨rfl, hb⟩
        refine ⟨_, rfl, heldC_call H.out hb, ?_⟩
        have H := Lib.hid (heldC_call H.out hb)
        have NR := Lib.hid (NR.out.keep hb)
        clear hb
        refine run_cmp (k := .i64) (p := (M : Int)) (q := 1) (b := false) (show opAt (opsOf Tryz.f13 4) 2 = some (some 22, .binOp .neq 3 (.tmp 21) (.const (.int .i64 1)) 3, none) from by kernel_rfl) (by kernel_rfl) (by kernel_rfl) (by kernel_rfl) (by kernel_rfl) (congrArg some (bne_eq_false_iff_eq.2 (by omega))) ?_
        refine run_mov (v := .bool false) (show opAt (opsOf Tryz.f13 4) 3 = some (some 23, .move (.tmp 22), none) from by kernel_rfl) (by kernel_rfl) (by kernel_rfl) (by kernel_rfl) ?_
        refine run_mov (v := .slice sa N c) (show opAt (opsOf Tryz.f13 4) 4 = some (some 24, .move (.tmp 6), some (3, false)) from by kernel_rfl) (by kernel_rfl) (by kernel_rfl) (by kernel_rfl) ?_
        refine run_len (b := sa) (n := N) (c := c) (show opAt (opsOf Tryz.f13 4) 5 = some (some 25, .call { callee := .builtin .len, args := [(.tmp 24)].toArray, argTypes := [43].toArray }, some (3, false)) from by kernel_rfl) (by kernel_rfl) (by kernel_rfl) (by kernel_rfl) (by kernel_rfl) ?_
        refine run_cmp (k := .i64) (p := (N : Int)) (q := 1) (b := true) (show opAt (opsOf Tryz.f13 4) 6 = some (some 26, .binOp .neq 3 (.tmp 25) (.const (.int .i64 1)) 3, some (3, false)) from by kernel_rfl) (by kernel_rfl) (by kernel_rfl) (by kernel_rfl) (by kernel_rfl) (congrArg some (bne_iff_ne.2 (by omega))) ?_
        refine run_pick (b := false) (v := .bool true) (show opAt (opsOf Tryz.f13 4) 7 = some (some 27, .pick (.tmp 23) (.const (.bool true)) (.tmp 26), none) from by kernel_rfl) (by kernel_rfl) (by kernel_rfl) (by kernel_rfl) (by kernel_rfl) ?_
        refine run_mov (v := .bool true) (show opAt (opsOf Tryz.f13 4) 8 = some (some 28, .move (.tmp 27), none) from by kernel_rfl) (by kernel_rfl) (by kernel_rfl) (by kernel_rfl) ?_
        refine run_skip (show opAt (opsOf Tryz.f13 4) 9 = some (some 29, .load 31 (.tmp 2), some (8, false)) from by kernel_rfl) (by kernel_rfl) (by kernel_rfl) ?_
        refine run_skip (show opAt (opsOf Tryz.f13 4) 10 = some (some 30, .move (.tmp 6), some (8, false)) from by kernel_rfl) (by kernel_rfl) (by kernel_rfl) ?_
        refine run_skip (show opAt (opsOf Tryz.f13 4) 11 = some (some 31, .indexAddr 43 (.tmp 30) (.const (.int .i64 0)), some (8, false)) from by kernel_rfl) (by kernel_rfl) (by kernel_rfl) ?_
        refine run_skip (show opAt (opsOf Tryz.f13 4) 12 = some (some 32, .load 3 (.tmp 31), some (8, false)) from by kernel_rfl) (by kernel_rfl) (by kernel_rfl) ?_
        refine run_pass (show opAt (opsOf Tryz.f13 4) 13 = some (some 33, .call { callee := .value (.func 41), args := [(.tmp 29), (.tmp 32)].toArray, argTypes := [31, 3].toArray }, some (8, false)) from by kernel_rfl) (by kernel_rfl) (by kernel_rfl) H.out ?_
        refine run_skip (show opAt (opsOf Tryz.f13 4) 14 = some (some 34, .unOp .not 4 (.tmp 33), some (8, false)) from by kernel_rfl) (by kernel_rfl) (by kernel_rfl) ?_
        refine run_pick (b := true) (v := .bool true) (show opAt (opsOf Tryz.f13 4) 15 = some (some 35, .pick (.tmp 28) (.const (.bool true)) (.tmp 34), none) from by kernel_rfl) (by kernel_rfl) (by kernel_rfl) (by kernel_rfl) (by kernel_rfl) ?_
        refine run_asg (v := .bool true) (show opAt (opsOf Tryz.f13 4) 16 = some (some 19, .assign (.tmp 35), none) from by kernel_rfl) (by kernel_rfl) (by kernel_rfl) (by kernel_rfl) ?_
        refine run_done ?_
        simp only [putAll, Act.put, List.setIfInBounds_toArray, List.set_cons_zero, List.set_cons_succ]
        have KR := Lib.hid NR.out.out
        have B4 := Lib.hid (below_then B2.out H.out.1)
        obtain ⟨z0, z1, z2, z3, z4, z5, z6, z7⟩ := vec8 KR.out
        obtain ⟨f0, f1, f2, f3, f4, f5, f6, f7⟩ := free8 KR.out
        go_wp2
        rw [XX.out.1, XX.out.2]
        exact vec_endS rfl rfl rfl rfl KR.out (zeroSD _ _ w _ (put8_below B4.out (by omega)))
    · have XX := Lib.hid (XM.out (fun h => hm (OP.out.1 h).1))
      obtain ⟨N, hN⟩ : ∃ x, Z.length = x := ⟨_, rfl⟩
      rw [hN]
      clear XM XO OP LL IP CE HZ hN
      go_upto_region 4 with (fail)
      have NR := Lib.hid (⟨KR.out⟩ : NewB (w.heap.size + 1 + 1) 31 #[.int .i64 0, .slice none 0 0, .slice none 0 0, .slice none 0 0, .slice none 0 0, .slice none 0 0, .int .i64 0, .int .i64 0] w2)
      have H := Lib.hid (show HeldC w2 w2 ([(w.heap.size, 31, #[.int .i64 vk, .slice va1 vn1 vm1, .slice va2 vn2 vm2, .slice va3 vn3 vm3, .slice va4 vn4 vm4, .slice va5 vn5 vm5, .int .i64 vc, .int .i64 ve]), (w.heap.size + 1, 31, #[.int .i64 sk, .slice sa1 sn1 sm1, .slice sa2 sn2 sm2, .slice sa3 sn3 sm3, .slice sa4 sn4 sm4, .slice sa5 sn5 sm5, .int .i64 sc, .int .i64 se])]) from heldC_two (Below.refl _ _) KA.out KB.out)
      refine run_regionT (ops := (opsOf Tryz.f13 4)) (S := fun w' => HeldC w2 w' ([(w.heap.size, 31, #[.int .i64 vk, .slice va1 vn1 vm1, .slice va2 vn2 vm2, .slice va3 vn3 vm3, .slice va4 vn4 vm4, .slice va5 vn5 vm5, .int .i64 vc, .int .i64 ve]), ((w.heap.size + 1), 31, #[.int .i64 sk, .slice sa1 sn1 sm1, .slice sa2 sn2 sm2, .slice sa3 sn3 sm3, .slice sa4 sn4 sm4, .slice sa5 sn5 sm5, .int .i64 sc, .int .i64 se])])) (.leaf [(0, true), (1, false), (2, true), (3, true), (4, true), (5, true), (6, true), (7, true), (8, true), (9, true), (10, true), (11, true), (12, true), (13, false), (14, true), (15, true), (16, true)]) (by kernel_rfl) (by kernel_rfl) (by kernel_rfl) (by kernel_rfl) (by kernel_rfl) (fun _ _ _ _ _ h => h) (heldC_drew H.out) ?_
      have H := Lib.hid (heldC_drew H.out)
      have NR := Lib.hid (NR.out.keep (below_drew' (Below.refl _ _)))
      refine runC_vec (b := (w.heap.size + 1)) (show opAt (opsOf Tryz.f13 4) 0 = some (some 20, .load 31 (.tmp 3), none) from by kernel_rfl) (by kernel_rfl) (by kernel_rfl) (by kernel_rfl) (List.Mem.tail _ (List.Mem.head _)) ?_
      refine run_call (args := [.agg #[.int .i64 sk, .slice sa1 sn1 sm1, .slice sa2 sn2 sm2, .slice sa3 sn3 sm3, .slice sa4 sn4 sm4, .slice sa5 sn5 sm5, .int .i64 sc, .int .i64 se]]) (show opAt (opsOf Tryz.f13 4) 1 = some (some 21, .call { callee := .value (.func 40), args := [(.tmp 20)].toArray, argTypes := [31].toArray }, none) from by kernel_rfl) (by kernel_rfl) (by kernel_rfl) (by kernel_rfl) (by kernel_rfl) ?_
      refine (LS.out _ (below_then B2.out H.out.1)).mono ?_
      rintro en rw1 ⟨rfl, hb⟩
      refine ⟨_, rfl, heldC_call H.out hb, ?_⟩
      have H := Lib.hid (heldC_call H.out hb)
      have NR := Lib.hid (NR.out.keep hb)
      clear hb
      refine run_cmp (k := .i64) (p := (M : Int)) (q := 1) (b := true) (show opAt (opsOf Tryz.f13 4) 2 = some (some 22, .binOp .neq 3 (.tmp 21) (.const (.int .i64 1)) 3, none) from by kernel_rfl) (by kernel_rfl) (by kernel_rfl) (by kernel_rfl) (by kernel_rfl) (congrArg some (bne_iff_ne.2 (by omega))) ?_
      refine run_mov (v := .bool true) (show opAt (opsOf Tryz.f13 4) 3 = some (some 23, .move (.tmp 22), none) from by kernel_rfl) (by kernel_rfl) (by kernel_rfl) (by kernel_rfl) ?_
      refine run_skip (show opAt (opsOf Tryz.f13 4) 4 = some (some 24, .move (.tmp 6), some (3, false)) from by kernel_rfl) (by kernel_rfl) (by kernel_rfl) ?_
      refine run_skip (show opAt (opsOf Tryz.f13 4) 5 = some (some 25, .call { callee := .builtin .len, args := [(.tmp 24)].toArray, argTypes := [43].toArray }, some (3, false)) from by kernel_rfl) (by kernel_rfl) (by kernel_rfl) ?_
      refine run_skip (show opAt (opsOf Tryz.f13 4) 6 = some (some 26, .binOp .neq 3 (.tmp 25) (.const (.int .i64 1)) 3, some (3, false)) from by kernel_rfl) (by kernel_rfl) (by kernel_rfl) ?_
      refine run_pick (b := true) (v := .bool true) (show opAt (opsOf Tryz.f13 4) 7 = some (some 27, .pick (.tmp 23) (.const (.bool true)) (.tmp 26), none) from by kernel_rfl) (by kernel_rfl) (by kernel_rfl) (by kernel_rfl) (by kernel_rfl) ?_
      refine run_mov (v := .bool true) (show opAt (opsOf Tryz.f13 4) 8 = some (some 28, .move (.tmp 27), none) from by kernel_rfl) (by kernel_rfl) (by kernel_rfl) (by kernel_rfl) ?_
      refine run_skip (show opAt (opsOf Tryz.f13 4) 9 = some (some 29, .load 31 (.tmp 2), some (8, false)) from by kernel_rfl) (by kernel_rfl) (by kernel_rfl) ?_
      refine run_skip (show opAt (opsOf Tryz.f13 4) 10 = some (some 30, .move (.tmp 6), some (8, false)) from by kernel_rfl) (by kernel_rfl) (by kernel_rfl) ?_
      refine run_skip (show opAt (opsOf Tryz.f13 4) 11 = some (some 31, .indexAddr 43 (.tmp 30) (.const (.int .i64 0)), some (8, false)) from by kernel_rfl) (by kernel_rfl) (by kernel_rfl) ?_
      refine run_skip (show opAt (opsOf Tryz.f13 4) 12 = some (some 32, .load 3 (.tmp 31), some (8, false)) from by kernel_rfl) (by kernel_rfl) (by kernel_rfl) ?_
      refine run_pass (show opAt (opsOf Tryz.f13 4) 13 = some (some 33, .call { callee := .value (.func 41), args := [(.tmp 29), (.tmp 32)].toArray, argTypes := [31, 3].toArray }, some (8, false)) from by kernel_rfl) (by kernel_rfl) (by kernel_rfl) H.out ?_
      refine run_skip (show opAt (opsOf Tryz.f13 4) 14 = some (some 34, .unOp .not 4 (.tmp 33), some (8, false)) from by kernel_rfl) (by kernel_rfl) (by kernel_rfl) ?_
      refine run_pick (b := true) (v := .bool true) (show opAt (opsOf Tryz.f13 4) 15 = some (some 35, .pick (.tmp 28) (.const (.bool true)) (.tmp 34), none) from by kernel_rfl) (by kernel_rfl) (by kernel_rfl) (by kernel_rfl) (by kernel_rfl) ?_
      refine run_asg (v := .bool true) (show opAt (opsOf Tryz.f13 4) 16 = some (some 19, .assign (.tmp 35), none) from by kernel_rfl) (by kernel_rfl) (by kernel_rfl) (by kernel_rfl) ?_
      refine run_done ?_
      simp only [putAll, Act.put, List.setIfInBounds_toArray, List.set_cons_zero, List.set_cons_succ]
      have KR := Lib.hid NR.out.out
      have B4 := Lib.hid (below_then B2.out H.out.1)
      obtain ⟨z0, z1, z2, z3, z4, z5, z6, z7⟩ := vec8 KR.out
      obtain ⟨f0, f1, f2, f3, f4, f5, f6, f7⟩ := free8 KR.out
      go_wp2
      rw [XX.out.1, XX.out.2]
      exact vec_endS rfl rfl rfl rfl KR.out (zeroSD _ _ w _ (put8_below B4.out (by omega)))
  · have XX := Lib.hid (XB.out hR)
    have hRb : (R.toList == []) = false := by have h := str_not hR; rw [ByteArray.toList_eq ⟨#[]⟩] at h; exact h
    clear hR XM XO XR XB OP LL IP CE LS CR hz
    obtain ⟨z0, z1, z2, z3, z4, z5, z6, z7⟩ := vec8 KR.out
    obtain ⟨f0, f1, f2, f3, f4, f5, f6, f7⟩ := free8 KR.out
    go_wp2
    rw [XX.out.1, XX.out.2]
    exact vec_endS rfl rfl rfl rfl KR.out (zeroSD _ _ w _ (put8_below B2.out (by omega)))
end Go.Proofs.YtpekdmocgjjhnaaGreat

/- The reference's copies of vectors. -/
namespace Go.Proofs.YtpekdmocgjjhnaaGreat
set_option maxRecDepth 100000
open Go.RowKit
set_option linter.unusedVariables false
theorem RowV.start0 (w : World) (d : Nat) (parts : List Vec) : RowV w (w.alloc (.cells #[] 31)) d parts 0 (.slice (some ⟨w.heap.size, 0, none⟩) 0 0) :=
  ⟨⟨[], [], rfl, rfl, ⟨rfl, .inr ⟨w.heap.size, 0, #[], rfl, Nat.le_refl _, blk_new w _ rfl, Nat.le_refl _, Nat.zero_le _, rfl, rfl⟩⟩, fun i h => absurd h (Nat.not_lt_zero _), List.nodup_nil, fun b h => by cases h⟩, below1 w _⟩
set_option maxHeartbeats 4000000 in
theorem scpStep (d : Nat) (IC : SCV d) : SCP d := by
  refine ⟨fun parts a cap lo hi w hs hhi hsm hall hn => ?_⟩
  have A := Lib.hid (fun (k : Nat) (w1 : World) (hk : k < parts.length) (hb : Below w.heap.size w w1) => (hs.below hb hhi).at_ hk)
  have C := Lib.hid (fun (k : Nat) (w1 : World) (x : Value) (hk : k < parts.length) (hb : Below w.heap.size w w1) (hv : VecAt lo hi w1 d (parts.getD k noV) x) => IC.out _ x lo hi w1 hv (Nat.le_trans hhi hb.size) (hsm k hk) (hall k hk).2 (by have := (hall k hk).1.flat.parts; omega))
  have L := Lib.hid (fun (k : Nat) (w1 : World) (x : Value) (hk : k < parts.length) (hb : Below w.heap.size w w1) (hv : VecAt lo hi w1 d (parts.getD k noV) x) => show Calls Tryz.prog 44 #[x, .int .i64 3] w1 (fun e w' => e = .returned (.bool true) ∧ Below w1.heap.size w1 w') from ((sIsAll 3 (Nat.le_refl _)).out d _ x lo hi w1 hv (Nat.le_trans hhi hb.size) (hsm k hk)).mono (fun e w' h => by rw [bB_yes (hall k hk).1] at h; exact h))
  have FIN := Lib.hid (fun (wr : World) (v : Value) (h : RowV w wr d parts parts.length v) => h.parts)
  clear hs hsm IC hall
  obtain ⟨n, hn'⟩ : ∃ n, parts.length = n := ⟨_, rfl⟩
  have HNn := Lib.hid hn'
  rw [hn'] at hn A C L FIN ⊢
  clear hn'
  obtain ⟨i0, hi0, hz0, hz1, hz2⟩ := info_parts infoVec8
  go_enter Tryz.func56, Tryz.ntmps56
  go_wp2
  go_loopw [3, 4] (fun v i wr => ∃ k : Nat, k ≤ n ∧ i = .int .i64 k ∧ RowV w wr d parts k v) (fun _ i _ => n - (intOf i).toNat)
  case atStart => exact ⟨0, Nat.zero_le _, rfl, RowV.start0 w d parts⟩
  case round =>
    obtain ⟨k, hk, rfl, hr⟩ := hrel
    have RV := Lib.hid hr
    clear hr
    by_cases hlt : k < n
    · have h40 : k ≤ 40 := by omega
      obtain ⟨b, off, p0, p1, p2, p3, p4, p5, p6, p7, rfl, hbB, hv, c0, c1, c2, c3, c4, c5, c6, c7⟩ := A.out _ _ hlt RV.out.below
      have HV := Lib.hid hv
      clear hv
      go_wp2_with fail
      refine (L.out _ _ _ hlt RV.out.below HV.out).mono ?_
      rintro e wi ⟨rfl, hbi⟩
      have RV := Lib.hid (RV.out.keep hbi)
      clear hbi HV c0 c1 c2 c3 c4 c5 c6 c7 hbB
      obtain ⟨b', off', u0, u1, u2, u3, u4, u5, u6, u7, e', hbB, hv, c0, c1, c2, c3, c4, c5, c6, c7⟩ := A.out _ _ hlt RV.out.below
      simp only [Option.some.injEq, Addr.mk.injEq, and_true] at e'
      obtain ⟨rfl, rfl⟩ := e'
      have HV := Lib.hid hv
      clear hv
      go_wp2_with fail
      refine (C.out _ _ _ hlt RV.out.below HV.out).mono ?_
      rintro e w2 ⟨y, rfl, ho, hb⟩
      obtain ⟨yk, ya1, yn1, ym1, ya2, yn2, ym2, ya3, yn3, ym3, ya4, yn4, ym4, ya5, yn5, ym5, yc, ye, rfl⟩ := ho.agg
      have HO := Lib.hid ho
      have BW := Lib.hid hb
      obtain ⟨xs, hxs⟩ := RV.out.row
      have XS := Lib.hid hxs
      have OR := Lib.hid (ownsRow_below (ownsRow_below hxs BW.out) (below1 w2 (.cells #[.int .i64 yk, .slice ya1 yn1 ym1, .slice ya2 yn2 ym2, .slice ya3 yn3 ym3, .slice ya4 yn4 ym4, .slice ya5 yn5 ym5, .int .i64 yc, .int .i64 ye] 31)))
      have S1 := Lib.hid (show w.heap.size ≤ w2.heap.size from (below_then RV.out.below BW.out).size)
      clear ho hb hxs c0 c1 c2 c3 c4 c5 c6 c7
      go_wp2_with (at_builtin; refine wpList_append_own_at _ rfl _ _ 29 rfl w.heap.size 31 i0 _ 8 144 Tryz.underlying29 hi0 hz0 hz1 hz2 rfl (by decide) _ k xs rfl OR.out ⟨w2.heap.size, 0, none⟩ 1 1 [.int .i64 yk, .slice ya1 yn1 ym1, .slice ya2 yn2 ym2, .slice ya3 yn3 ym3, .slice ya4 yn4 ym4, .slice ya5 yn5 ym5, .int .i64 yc, .int .i64 ye] rfl rfl ?c1 ?c2 ?c3 ?c4 ?c5 ?_)
      case c1 =>
        intro j u hj
        have hlt : j < 8 := by have := (List.getElem?_eq_some_iff.1 hj).1; simpa using this
        rw [addr_add, Nat.zero_add]
        refine cellOf (blk_new w2 _ rfl) ?_
        rw [← hj]
        rcases (show j = 0 ∨ j = 1 ∨ j = 2 ∨ j = 3 ∨ j = 4 ∨ j = 5 ∨ j = 6 ∨ j = 7 by omega) with rfl | rfl | rfl | rfl | rfl | rfl | rfl | rfl <;> rfl
      case c2 => intro u hu; simp only [List.mem_cons, List.not_mem_nil, or_false] at hu; rcases hu with rfl | rfl | rfl | rfl | rfl | rfl | rfl | rfl <;> rfl
      case c3 => unfold maxLen; omega
      case c4 => omega
      case c5 => have := S1.out; simp; omega
      intro v' w3 hown' hgrow _ hwh
      have NX := Lib.hid (RV.out.next HO.out (by simp) BW.out hgrow (fun ys hy => ownsRow_same XS.out hy ▸ hown') (by simpa using hwh))
      clear hown' hgrow hwh
      go_wp2
      go_roundw
      case rel => exact ⟨k + 1, by omega, by go_num, NX.out⟩
      case measure => simp [intOf]; omega
    · obtain rfl : k = n := by omega
      go_wp2
      obtain ⟨F, h1, h2, h3⟩ := FIN.out _ _ RV.out
      go_ret
      exact ⟨_, F, rfl, h1, h2, h3, RV.out.below, by rw [HNn.out]; exact RV.out.row⟩
theorem scvZero : SCV 0 := ⟨fun _ _ _ _ _ h => h.elim⟩
theorem scvAll : ∀ d, SCV d
  | 0 => scvZero
  | d + 1 => scvStep d (scpStep d (scvAll d))
end Go.Proofs.YtpekdmocgjjhnaaGreat

/- Number subscripts of the reference. -/
namespace Go.Proofs.YtpekdmocgjjhnaaGreat
open Go.RowKit
set_option maxRecDepth 100000
set_option linter.unusedVariables false

theorem negK_succ {l : List It} {k : Nat} : NegK l (k + 1) ↔ (NegK l k ∨ (l.getD k noI).n < 0) := by
  constructor
  · rintro ⟨i, h1, h2⟩
    by_cases e : i = k
    · subst e; exact .inr h2
    · exact .inl ⟨i, by omega, h2⟩
  · rintro (⟨i, h1, h2⟩ | h)
    · exact ⟨i, by omega, h2⟩
    · exact ⟨k, by omega, h⟩
theorem posK_succ {l : List It} {k : Nat} : PosK l (k + 1) ↔ (PosK l k ∨ (0 < (l.getD k noI).n ∨ (l.getD k noI).d = 0)) := by
  constructor
  · rintro ⟨i, h1, h2⟩
    by_cases e : i = k
    · subst e; exact .inr h2
    · exact .inl ⟨i, by omega, h2⟩
  · rintro (⟨i, h1, h2⟩ | h)
    · exact ⟨i, by omega, h2⟩
    · exact ⟨k, by omega, h⟩
/-- Does b say that P holds? (A structure, so that the walk leaves it as it is.) -/
structure IsB (b : Bool) (P : Prop) : Prop where
  out : b = true ↔ P
theorem negB_zero (l : List It) : IsB false (NegK l 0) := ⟨⟨(fun h => by cases h), fun ⟨i, h, _⟩ => absurd h (Nat.not_lt_zero _)⟩⟩
theorem posB_zero (l : List It) : IsB false (PosK l 0) := ⟨⟨(fun h => by cases h), fun ⟨i, h, _⟩ => absurd h (Nat.not_lt_zero _)⟩⟩
theorem negB_yes {l : List It} {k : Nat} (hx : (l.getD k noI).n < 0) : IsB true (NegK l (k + 1)) := ⟨⟨fun _ => negK_succ.2 (.inr hx), fun _ => rfl⟩⟩
theorem negB_no {l : List It} {k : Nat} {b : Bool} (h : IsB b (NegK l k)) (hx : ¬ (l.getD k noI).n < 0) : IsB b (NegK l (k + 1)) := ⟨⟨fun e => negK_succ.2 (.inl (h.out.1 e)), fun e => (negK_succ.1 e).elim h.out.2 (fun q => absurd q hx)⟩⟩
theorem posB_yes {l : List It} {k : Nat} (hx : 0 < (l.getD k noI).n ∨ (l.getD k noI).d = 0) : IsB true (PosK l (k + 1)) := ⟨⟨fun _ => posK_succ.2 (.inr hx), fun _ => rfl⟩⟩
theorem posB_no {l : List It} {k : Nat} {b : Bool} (h : IsB b (PosK l k)) (hx : ¬ (0 < (l.getD k noI).n ∨ (l.getD k noI).d = 0)) : IsB b (PosK l (k + 1)) := ⟨⟨fun e => posK_succ.2 (.inl (h.out.1 e)), fun e => (posK_succ.1 e).elim h.out.2 (fun q => absurd q hx)⟩⟩
set_option maxHeartbeats 8000000 in
theorem specNumbers (l : List It) (a : Option Addr) (c lo hi n : Nat) (w : World) (hI : ItemsAt lo hi w a l) (hhi : hi ≤ w.heap.size) (hl : l.length ≤ 1048576) (hn : n ≤ 40) (hnum : ∀ i, i < l.length → NumIt (l.getD i noI)) :
    Calls Tryz.prog 46 #[.int .i64 (n : Int), .slice a l.length c] w (ResZ (nuZ l n) (nuS l) w) := by
  have AI := Lib.hid (fun (k : Nat) (W : World) (hk : k < l.length) (hb : Below w.heap.size w W) => (hI.below hb hhi).at_ hk)
  have XF := Lib.hid (nmE_frac l)
  have XU := Lib.hid (nmE_out l)
  have YS := Lib.hid (fun k h => nmC_yes (l := l) (k := k) h)
  have NS := Lib.hid (fun k h => nmC_no (l := l) (k := k) h)
  have LE := Lib.hid (nmC_len l)
  have ZDA := Lib.hid (show ∀ k, k < l.length → (l.getD k noI).d = 0 → ¬ (l.getD k noI).n ≠ 0 from fun k hk h0 => by
    have h := (hnum k hk).z h0
    rw [h]; exact fun e => e rfl)
  have AL := Lib.hid (show AllNeg (nmC l l.length) ↔ ¬ PosK l l.length from all_iff (fun i hi h0 => by have h := (hnum i hi).z h0; rw [h]; rfl))
  have NI := Lib.hid (show NegIn (nmC l l.length) ↔ NegK l l.length from neg_iff)
  have BAD := Lib.hid (fun h => nu_bad (l := l) n h)
  have GOOD := Lib.hid (fun h => nu_ok (l := l) n (nmE_ok l h))
  have PL := Lib.hid (fun h => nm_plain (c := nmC l l.length) n h)
  have MX := Lib.hid (fun h h2 => nm_mixed (c := nmC l l.length) n h h2)
  have MI := Lib.hid (fun h h2 => nm_minus (c := nmC l l.length) n h h2)
  obtain ⟨m, hm⟩ : ∃ m, l.length = m := ⟨_, rfl⟩
  rw [hm] at AI XF XU ZDA AL NI GOOD PL MX MI hl ⊢
  obtain ⟨RZ, hRZ⟩ : ∃ R, nuZ l n = R := ⟨_, rfl⟩
  obtain ⟨RS, hRS⟩ : ∃ R, nuS l = R := ⟨_, rfl⟩
  rw [hRZ, hRS] at BAD GOOD
  rw [hRZ, hRS]
  clear hI hhi hnum hm hRZ hRS
  obtain ⟨w1, hw1⟩ : ∃ W, w.alloc (.cells #[] 3) = W := ⟨_, rfl⟩
  have ST := Lib.hid (show IntZ w w1 (nmC l 0) (.slice (some ⟨w.heap.size, 0, none⟩) 0 0) from hw1 ▸ IntZ.nil0 w w (Below.refl _ _))
  have EW := Lib.hid hw1
  clear hw1
  go_enter Tryz.func46, Tryz.ntmps46
  go_upto_region 5 with (fail)
  rw [EW.out]
  clear EW
  go_loopw [6, 7, 8, 9] (fun v6 v7 v8 v9 wr => ∃ (k : Nat) (b1 b2 : Bool), k ≤ m ∧ v9 = .int .i64 k ∧ IntZ w wr (nmC l k) v6 ∧ v7 = .bool b1 ∧ v8 = .bool b2 ∧ IsB b1 (NegK l k) ∧ IsB b2 (PosK l k) ∧ ∀ j, j < k → OkN (l.getD j noI)) (fun _ _ _ v9 _ => m - (intOf v9).toNat)
  case atStart => exact ⟨0, false, false, Nat.zero_le _, rfl, ST.out, rfl, rfl, negB_zero l, posB_zero l, fun _ h => absurd h (Nat.not_lt_zero _)⟩
  case round =>
    obtain ⟨k, b1, b2, hk, rfl, hir, rfl, rfl, hm1, hm2, hok⟩ := hrel
    have IR := Lib.hid hir
    have M1 := Lib.hid hm1
    have M2 := Lib.hid hm2
    have OK := Lib.hid hok
    clear hir hm1 hm2 hok
    by_cases hlt : k < m
    · obtain ⟨ba, off, rfl, hbB, c0, c1, c2'⟩ := AI.out k wr hlt IR.out.below
      have c2 : wr.cell? ⟨ba, off + k * 3 + 2, none⟩ = some (.string (l.getD k noI).t) := c2'
      have LN := Lib.hid (show (nmC l k).length ≤ 1048576 by have := LE.out k; omega)
      have XF1 := Lib.hid (show 1 < (l.getD k noI).d → nmE l = invB from fun h => XF.out k hlt OK.out h)
      have XU1 := Lib.hid (show ¬ 1 < (l.getD k noI).d → ((l.getD k noI).n < -40 ∨ 40 < (l.getD k noI).n) → nmE l = oobB from fun h g => XU.out k hlt OK.out (by omega) g)
      have Y1 := Lib.hid (YS.out k)
      have Z1 := Lib.hid (NS.out k)
      have ZD := Lib.hid (ZDA.out k hlt)
      have OKX := Lib.hid (show OkN (l.getD k noI) → ∀ j, j < k + 1 → OkN (l.getD j noI) from fun h j hj => by
        by_cases e : j = k
        · subst e; exact h
        · exact OK.out j (by omega))
      obtain ⟨x, hx⟩ : ∃ x, l.getD k noI = x := ⟨_, rfl⟩
      have EX := Lib.hid hx
      rw [hx] at c0 c1 c2 XF1 XU1 Y1 Z1 ZD OKX
      clear hx c2'
      obtain ⟨wa, hwa⟩ : ∃ W, wr.alloc (.cells #[.int .i64 x.n, .int .i64 x.d, .string x.t] 66) = W := ⟨_, rfl⟩
      have BA := Lib.hid (show Below wr.heap.size wr wa from hwa ▸ below1 wr _)
      have KB := Lib.hid (show wa.heap[wr.heap.size]? = some (.cells #[.int .i64 x.n, .int .i64 x.d, .string x.t] 66 (0, 0)) from hwa ▸ blk_new wr _ rfl)
      have IR := Lib.hid (IR.out.keep BA.out)
      have BN := Lib.hid IR.out.below
      have EW := Lib.hid hwa
      clear hwa
      go_upto_region 8 with (fail)
      rw [EW.out]
      clear EW c0 c1 c2
      have k0 := cellOf KB.out (i := 0) rfl
      have k1 := cellOf KB.out (i := 1) rfl
      have k2 := cellOf KB.out (i := 2) rfl
      by_cases h1 : 1 < x.d
      · have E := XF1.out h1
        obtain ⟨e1, e2⟩ := BAD.out (by rw [E]; decide)
        have X1 := Lib.hid e1
        have X2 := Lib.hid (e2.trans E)
        clear e1 e2 E XF1 XU1 Y1 Z1 ZD OKX EX M1 M2
        go_wp2
        go_ret2
        rw [X2.out, X1.out]
        exact ⟨_, rfl, IntZ.nil0 w _ BN.out⟩
      · by_cases h2 : -40 ≤ x.n ∧ x.n ≤ 40
        · have CL := Lib.hid (fun W => by have h := l1In_any x.n (-40) 40 W; rw [decide_eq_true h2] at h; exact h)
          obtain ⟨h2a, h2b⟩ := h2
          have OKN := Lib.hid (OKX.out ⟨by omega, h2a, h2b⟩)
          clear XF1 XU1 OKX BN
          go_wp2_with fail
          refine (CL.out _).mono ?_
          rintro e wq ⟨rfl, rfl⟩
          rcases (show x.n < 0 ∨ (¬ x.n < 0 ∧ 0 < x.n) ∨ (x.n = 0 ∧ x.d = 0) ∨ (x.n = 0 ∧ ¬ x.d = 0) by omega) with h3 | ⟨h3, h4⟩ | ⟨h3, h4⟩ | ⟨h3, h4⟩
          · have h4 : ¬ 0 < x.n := by omega
            have h4d : decide (0 < x.n) = false := decide_eq_false h4
            have h3d : decide (x.n < 0) = true := decide_eq_true h3
            have h5 : ¬ x.n = 0 := by omega
            have h5b : (x.n != 0) = true := bne_iff_ne.2 h5
            have hd0 : ¬ x.d = 0 := fun e => ZD.out e (by omega)
            have hd0b : (x.d == 0) = false := beq_eq_false_iff_ne.2 hd0
            cases b1 <;> cases b2
            · have N1 := Lib.hid (negB_yes (l := l) (k := k) (by rw [EX.out]; exact h3))
              have N2 := Lib.hid (posB_no M2.out (by rw [EX.out]; omega))
              have NX := Lib.hid (Y1.out (by omega))
              clear Y1 Z1 EX
              go_wp2_with (at_builtin; go_loud (refine wpList_appInt rfl _ _ rfl x.n (nmC l k) _ _ rfl rfl (IR.out.keep (below1 _ _)) (blk_new _ _ rfl) LN.out ?_))
              intro v' w3 hir
              have IN := Lib.hid (NX.out ▸ hir)
              clear hir
              go_wp2
              go_roundw
              case rel => exact ⟨k + 1, true, false, by omega, by go_num, IN.out, rfl, rfl, N1.out, N2.out, OKN.out⟩
              case measure => simp [intOf]; omega
            · have N1 := Lib.hid (negB_yes (l := l) (k := k) (by rw [EX.out]; exact h3))
              have N2 := Lib.hid (posB_no M2.out (by rw [EX.out]; omega))
              have NX := Lib.hid (Y1.out (by omega))
              clear Y1 Z1 EX
              go_wp2_with (at_builtin; go_loud (refine wpList_appInt rfl _ _ rfl x.n (nmC l k) _ _ rfl rfl (IR.out.keep (below1 _ _)) (blk_new _ _ rfl) LN.out ?_))
              intro v' w3 hir
              have IN := Lib.hid (NX.out ▸ hir)
              clear hir
              go_wp2
              go_roundw
              case rel => exact ⟨k + 1, true, true, by omega, by go_num, IN.out, rfl, rfl, N1.out, N2.out, OKN.out⟩
              case measure => simp [intOf]; omega
            · have N1 := Lib.hid (negB_yes (l := l) (k := k) (by rw [EX.out]; exact h3))
              have N2 := Lib.hid (posB_no M2.out (by rw [EX.out]; omega))
              have NX := Lib.hid (Y1.out (by omega))
              clear Y1 Z1 EX
              go_wp2_with (at_builtin; go_loud (refine wpList_appInt rfl _ _ rfl x.n (nmC l k) _ _ rfl rfl (IR.out.keep (below1 _ _)) (blk_new _ _ rfl) LN.out ?_))
              intro v' w3 hir
              have IN := Lib.hid (NX.out ▸ hir)
              clear hir
              go_wp2
              go_roundw
              case rel => exact ⟨k + 1, true, false, by omega, by go_num, IN.out, rfl, rfl, N1.out, N2.out, OKN.out⟩
              case measure => simp [intOf]; omega
            · have N1 := Lib.hid (negB_yes (l := l) (k := k) (by rw [EX.out]; exact h3))
              have N2 := Lib.hid (posB_no M2.out (by rw [EX.out]; omega))
              have NX := Lib.hid (Y1.out (by omega))
              clear Y1 Z1 EX
              go_wp2_with (at_builtin; go_loud (refine wpList_appInt rfl _ _ rfl x.n (nmC l k) _ _ rfl rfl (IR.out.keep (below1 _ _)) (blk_new _ _ rfl) LN.out ?_))
              intro v' w3 hir
              have IN := Lib.hid (NX.out ▸ hir)
              clear hir
              go_wp2
              go_roundw
              case rel => exact ⟨k + 1, true, true, by omega, by go_num, IN.out, rfl, rfl, N1.out, N2.out, OKN.out⟩
              case measure => simp [intOf]; omega
          · have hc : 0 < x.n ∨ x.d = 0 := .inl h4
            have h4d : decide (0 < x.n) = true := decide_eq_true h4
            have h3d : decide (x.n < 0) = false := decide_eq_false h3
            have h5 : ¬ x.n = 0 := by omega
            have h5b : (x.n != 0) = true := bne_iff_ne.2 h5
            cases b1 <;> cases b2
            · have N1 := Lib.hid (negB_no M1.out (by rw [EX.out]; omega))
              have N2 := Lib.hid (posB_yes (l := l) (k := k) (by rw [EX.out]; exact hc))
              have NX := Lib.hid (Y1.out (by omega))
              clear Y1 Z1 EX
              go_wp2_with (at_builtin; go_loud (refine wpList_appInt rfl _ _ rfl x.n (nmC l k) _ _ rfl rfl (IR.out.keep (below1 _ _)) (blk_new _ _ rfl) LN.out ?_))
              intro v' w3 hir
              have IN := Lib.hid (NX.out ▸ hir)
              clear hir
              go_wp2
              go_roundw
              case rel => exact ⟨k + 1, false, true, by omega, by go_num, IN.out, rfl, rfl, N1.out, N2.out, OKN.out⟩
              case measure => simp [intOf]; omega
            · have N1 := Lib.hid (negB_no M1.out (by rw [EX.out]; omega))
              have N2 := Lib.hid (posB_yes (l := l) (k := k) (by rw [EX.out]; exact hc))
              have NX := Lib.hid (Y1.out (by omega))
              clear Y1 Z1 EX
              go_wp2_with (at_builtin; go_loud (refine wpList_appInt rfl _ _ rfl x.n (nmC l k) _ _ rfl rfl (IR.out.keep (below1 _ _)) (blk_new _ _ rfl) LN.out ?_))
              intro v' w3 hir
              have IN := Lib.hid (NX.out ▸ hir)
              clear hir
              go_wp2
              go_roundw
              case rel => exact ⟨k + 1, false, true, by omega, by go_num, IN.out, rfl, rfl, N1.out, N2.out, OKN.out⟩
              case measure => simp [intOf]; omega
            · have N1 := Lib.hid (negB_no M1.out (by rw [EX.out]; omega))
              have N2 := Lib.hid (posB_yes (l := l) (k := k) (by rw [EX.out]; exact hc))
              have NX := Lib.hid (Y1.out (by omega))
              clear Y1 Z1 EX
              go_wp2_with (at_builtin; go_loud (refine wpList_appInt rfl _ _ rfl x.n (nmC l k) _ _ rfl rfl (IR.out.keep (below1 _ _)) (blk_new _ _ rfl) LN.out ?_))
              intro v' w3 hir
              have IN := Lib.hid (NX.out ▸ hir)
              clear hir
              go_wp2
              go_roundw
              case rel => exact ⟨k + 1, true, true, by omega, by go_num, IN.out, rfl, rfl, N1.out, N2.out, OKN.out⟩
              case measure => simp [intOf]; omega
            · have N1 := Lib.hid (negB_no M1.out (by rw [EX.out]; omega))
              have N2 := Lib.hid (posB_yes (l := l) (k := k) (by rw [EX.out]; exact hc))
              have NX := Lib.hid (Y1.out (by omega))
              clear Y1 Z1 EX
              go_wp2_with (at_builtin; go_loud (refine wpList_appInt rfl _ _ rfl x.n (nmC l k) _ _ rfl rfl (IR.out.keep (below1 _ _)) (blk_new _ _ rfl) LN.out ?_))
              intro v' w3 hir
              have IN := Lib.hid (NX.out ▸ hir)
              clear hir
              go_wp2
              go_roundw
              case rel => exact ⟨k + 1, true, true, by omega, by go_num, IN.out, rfl, rfl, N1.out, N2.out, OKN.out⟩
              case measure => simp [intOf]; omega
          · have hc : 0 < x.n ∨ x.d = 0 := .inr h4
            have hn0 : ¬ x.n < 0 := by omega
            have hn1 : ¬ 0 < x.n := by omega
            have h4d : decide (0 < x.n) = false := decide_eq_false hn1
            have h3d : decide (x.n < 0) = false := decide_eq_false hn0
            cases b1 <;> cases b2
            · have N1 := Lib.hid (negB_no M1.out (by rw [EX.out]; omega))
              have N2 := Lib.hid (posB_yes (l := l) (k := k) (by rw [EX.out]; exact hc))
              have NX := Lib.hid (show nmC l (k + 1) = nmC l k ++ [0] from (Y1.out (by omega)).trans (by rw [h3]))
              clear Y1 Z1 EX
              go_wp2_with (at_builtin; go_loud (refine wpList_appInt rfl _ _ rfl 0 (nmC l k) _ _ rfl rfl (IR.out.keep (below1 _ _)) (blk_new _ _ rfl) LN.out ?_))
              intro v' w3 hir
              have IN := Lib.hid (NX.out ▸ hir)
              clear hir
              go_wp2
              go_roundw
              case rel => exact ⟨k + 1, false, true, by omega, by go_num, IN.out, rfl, rfl, N1.out, N2.out, OKN.out⟩
              case measure => simp [intOf]; omega
            · have N1 := Lib.hid (negB_no M1.out (by rw [EX.out]; omega))
              have N2 := Lib.hid (posB_yes (l := l) (k := k) (by rw [EX.out]; exact hc))
              have NX := Lib.hid (show nmC l (k + 1) = nmC l k ++ [0] from (Y1.out (by omega)).trans (by rw [h3]))
              clear Y1 Z1 EX
              go_wp2_with (at_builtin; go_loud (refine wpList_appInt rfl _ _ rfl 0 (nmC l k) _ _ rfl rfl (IR.out.keep (below1 _ _)) (blk_new _ _ rfl) LN.out ?_))
              intro v' w3 hir
              have IN := Lib.hid (NX.out ▸ hir)
              clear hir
              go_wp2
              go_roundw
              case rel => exact ⟨k + 1, false, true, by omega, by go_num, IN.out, rfl, rfl, N1.out, N2.out, OKN.out⟩
              case measure => simp [intOf]; omega
            · have N1 := Lib.hid (negB_no M1.out (by rw [EX.out]; omega))
              have N2 := Lib.hid (posB_yes (l := l) (k := k) (by rw [EX.out]; exact hc))
              have NX := Lib.hid (show nmC l (k + 1) = nmC l k ++ [0] from (Y1.out (by omega)).trans (by rw [h3]))
              clear Y1 Z1 EX
              go_wp2_with (at_builtin; go_loud (refine wpList_appInt rfl _ _ rfl 0 (nmC l k) _ _ rfl rfl (IR.out.keep (below1 _ _)) (blk_new _ _ rfl) LN.out ?_))
              intro v' w3 hir
              have IN := Lib.hid (NX.out ▸ hir)
              clear hir
              go_wp2
              go_roundw
              case rel => exact ⟨k + 1, true, true, by omega, by go_num, IN.out, rfl, rfl, N1.out, N2.out, OKN.out⟩
              case measure => simp [intOf]; omega
            · have N1 := Lib.hid (negB_no M1.out (by rw [EX.out]; omega))
              have N2 := Lib.hid (posB_yes (l := l) (k := k) (by rw [EX.out]; exact hc))
              have NX := Lib.hid (show nmC l (k + 1) = nmC l k ++ [0] from (Y1.out (by omega)).trans (by rw [h3]))
              clear Y1 Z1 EX
              go_wp2_with (at_builtin; go_loud (refine wpList_appInt rfl _ _ rfl 0 (nmC l k) _ _ rfl rfl (IR.out.keep (below1 _ _)) (blk_new _ _ rfl) LN.out ?_))
              intro v' w3 hir
              have IN := Lib.hid (NX.out ▸ hir)
              clear hir
              go_wp2
              go_roundw
              case rel => exact ⟨k + 1, true, true, by omega, by go_num, IN.out, rfl, rfl, N1.out, N2.out, OKN.out⟩
              case measure => simp [intOf]; omega
          · have hn0 : ¬ x.n < 0 := by omega
            have hn1 : ¬ 0 < x.n := by omega
            have h4d : decide (0 < x.n) = false := decide_eq_false hn1
            have h3d : decide (x.n < 0) = false := decide_eq_false hn0
            have hd0b : (x.d == 0) = false := beq_eq_false_iff_ne.2 h4
            cases b1 <;> cases b2
            · have N1 := Lib.hid (negB_no M1.out (by rw [EX.out]; omega))
              have N2 := Lib.hid (posB_no M2.out (by rw [EX.out]; omega))
              have NX := Lib.hid (Z1.out (by omega))
              have IN := Lib.hid (NX.out ▸ IR.out)
              clear Y1 Z1 EX
              go_wp2
              go_roundw
              case rel => exact ⟨k + 1, false, false, by omega, by go_num, IN.out, rfl, rfl, N1.out, N2.out, OKN.out⟩
              case measure => simp [intOf]; omega
            · have N1 := Lib.hid (negB_no M1.out (by rw [EX.out]; omega))
              have N2 := Lib.hid (posB_no M2.out (by rw [EX.out]; omega))
              have NX := Lib.hid (Z1.out (by omega))
              have IN := Lib.hid (NX.out ▸ IR.out)
              clear Y1 Z1 EX
              go_wp2
              go_roundw
              case rel => exact ⟨k + 1, false, true, by omega, by go_num, IN.out, rfl, rfl, N1.out, N2.out, OKN.out⟩
              case measure => simp [intOf]; omega
            · have N1 := Lib.hid (negB_no M1.out (by rw [EX.out]; omega))
              have N2 := Lib.hid (posB_no M2.out (by rw [EX.out]; omega))
              have NX := Lib.hid (Z1.out (by omega))
              have IN := Lib.hid (NX.out ▸ IR.out)
              clear Y1 Z1 EX
              go_wp2
              go_roundw
              case rel => exact ⟨k + 1, true, false, by omega, by go_num, IN.out, rfl, rfl, N1.out, N2.out, OKN.out⟩
              case measure => simp [intOf]; omega
            · have N1 := Lib.hid (negB_no M1.out (by rw [EX.out]; omega))
              have N2 := Lib.hid (posB_no M2.out (by rw [EX.out]; omega))
              have NX := Lib.hid (Z1.out (by omega))
              have IN := Lib.hid (NX.out ▸ IR.out)
              clear Y1 Z1 EX
              go_wp2
              go_roundw
              case rel => exact ⟨k + 1, true, true, by omega, by go_num, IN.out, rfl, rfl, N1.out, N2.out, OKN.out⟩
              case measure => simp [intOf]; omega
        · have CL := Lib.hid (fun W => by have h := l1In_any x.n (-40) 40 W; rw [decide_eq_false h2] at h; exact h)
          have E := XU1.out h1 (by omega)
          obtain ⟨e1, e2⟩ := BAD.out (by rw [E]; decide)
          have X1 := Lib.hid e1
          have X2 := Lib.hid (e2.trans E)
          clear e1 e2 E XF1 XU1 Y1 Z1 ZD OKX EX M1 M2 h2
          go_wp2_with fail
          refine (CL.out _).mono ?_
          rintro e wq ⟨rfl, rfl⟩
          go_wp2
          go_ret2
          rw [X2.out, X1.out]
          exact ⟨_, rfl, IntZ.nil0 w _ BN.out⟩
    · obtain rfl : k = m := by omega
      obtain ⟨g1, g2⟩ := GOOD.out OK.out
      have G1 := Lib.hid g1
      have G2 := Lib.hid g2
      have A1 := Lib.hid (show AllNeg (nmC l k) ↔ ¬ b2 = true from AL.out.trans (not_congr M2.out.out.symm))
      have I1 := Lib.hid (show NegIn (nmC l k) ↔ b1 = true from NI.out.trans M1.out.out.symm)
      obtain ⟨C, hC⟩ : ∃ C, nmC l k = C := ⟨_, rfl⟩
      rw [hC] at A1 I1 IR PL MX MI G1 G2
      have CLN := Lib.hid (show C.length ≤ k by rw [← hC]; exact LE.out k)
      clear hC g1 g2 XF XU YS NS LE ZDA AL NI BAD GOOD M1 M2 OK
      cases b1 with
      | false =>
        obtain ⟨p1, p2⟩ := PL.out (fun h => by have := I1.out.1 h; cases this)
        have X1 := Lib.hid (G1.out.trans p1)
        have X2 := Lib.hid (G2.out.trans p2)
        clear p1 p2 PL MX MI A1 I1 G1 G2
        go_wp2
        go_ret2
        exact ⟨_, by rw [X2.out]; rfl, by rw [X1.out]; exact IR.out⟩
      | true =>
        have HN := Lib.hid (I1.out.2 rfl)
        cases b2 with
        | true =>
          obtain ⟨p1, p2⟩ := MX.out HN.out (fun h => A1.out.1 h rfl)
          have X1 := Lib.hid (G1.out.trans p1)
          have X2 := Lib.hid (G2.out.trans p2)
          have BZ := Lib.hid IR.out.below
          clear p1 p2 PL MX MI A1 I1 G1 G2 HN
          go_wp2
          go_ret2
          rw [X2.out, X1.out]
          exact ⟨_, rfl, IntZ.nil0 w _ BZ.out⟩
        | false =>
          obtain ⟨p1, p2⟩ := MI.out HN.out (A1.out.2 (fun h => by cases h))
          have X1 := Lib.hid (G1.out.trans p1)
          have X2 := Lib.hid (G2.out.trans p2)
          clear p1 p2 PL MX MI A1 I1 G1 G2 HN
          obtain ⟨sa, cc, rfl, hi'⟩ := IR.out.ints
          have SA := Lib.hid hi'
          have BW := Lib.hid IR.out.below
          have XY := Lib.hid (fun j h => exZ_yes (c := C) (k := j) h)
          have XN := Lib.hid (fun j h => exZ_no (c := C) (k := j) h)
          have XL := Lib.hid (exZ_len C)
          have XD := Lib.hid (show ∀ j, exP C j = true ↔ ∀ q, q < C.length → C.getD q 0 ≠ -((j : Int) + 1) from fun j => by
            unfold exP
            by_cases h : HasZ C (-((j : Int) + 1))
            · rw [bB_yes h]
              obtain ⟨q, h1, h2⟩ := h
              exact ⟨(fun e => by cases e), fun e => absurd h2 (e q h1)⟩
            · rw [bB_no h]
              exact ⟨fun _ q h1 h2 => h ⟨q, h1, h2⟩, fun _ => rfl⟩)
          obtain ⟨w6, hw6⟩ : ∃ W, wr.alloc (.cells #[] 3) = W := ⟨_, rfl⟩
          have SR := Lib.hid (show IntZ wr w6 (exZ C 0) (.slice (some ⟨wr.heap.size, 0, none⟩) 0 0) from hw6 ▸ IntZ.nil0 wr wr (Below.refl _ _))
          have EW := Lib.hid hw6
          obtain ⟨cl, hcl⟩ : ∃ x, C.length = x := ⟨_, rfl⟩
          rw [hcl] at SA XD CLN ⊢
          have hclk := CLN.out
          clear hw6 hi' IR hcl
          go_upto_region 22 with (fail)
          rw [EW.out]
          clear EW
          go_loopw [11, 12] (fun v11 v12 ww => ∃ j : Nat, j ≤ n ∧ v12 = .int .i64 ((j : Int) + 1) ∧ IntZ wr ww (exZ C j) v11) (fun _ v12 _ => n + 1 - (intOf v12).toNat)
          case atStart => exact ⟨0, Nat.zero_le _, rfl, SR.out⟩
          case round =>
            obtain ⟨j, hj, rfl, hjr⟩ := hrel
            have JR := Lib.hid hjr
            clear hjr
            by_cases hjl : j < n
            · have LN2 := Lib.hid (show (exZ C j).length ≤ 1048576 by have := XL.out j; omega)
              have XDj := Lib.hid (XD.out j)
              have XYj := Lib.hid (XY.out j)
              have XNj := Lib.hid (XN.out j)
              have hjn : (j : Int) + 1 ≤ (n : Int) := by omega
              go_wp2
              go_loop [13, 14] (fun v13 v14 => ∃ (q : Nat) (b : Bool), q ≤ cl ∧ v14 = .int .i64 q ∧ v13 = .bool b ∧ IsB b (∀ p, p < q → C.getD p 0 ≠ -((j : Int) + 1))) (fun _ v14 => cl - (intOf v14).toNat)
              case atStart => exact ⟨0, true, Nat.zero_le _, rfl, rfl, ⟨⟨fun _ _ h => absurd h (Nat.not_lt_zero _), fun _ => rfl⟩⟩⟩
              case round =>
                obtain ⟨q, b, hq, rfl, rfl, hb⟩ := hrel
                have HB := Lib.hid hb
                clear hb
                by_cases hql : q < cl
                · obtain ⟨bb, oo, rfl, hbb, hcc⟩ := (SA.out.below JR.out.below) q hql
                  change _ = some (Value.int .i64 (C.getD q 0)) at hcc
                  obtain ⟨z, hz⟩ : ∃ z, C.getD q 0 = z := ⟨_, rfl⟩
                  have EZ := Lib.hid hz
                  rw [hz] at hcc
                  clear hz
                  cases b with
                  | false =>
                    have HN := Lib.hid (show IsB false (∀ p, p < q + 1 → C.getD p 0 ≠ -((j : Int) + 1)) from ⟨⟨(fun h => by cases h), fun h => HB.out.out.2 (fun p hp => h p (by omega))⟩⟩)
                    go_wp2
                    go_round
                    case rel => exact ⟨q + 1, false, by omega, by go_num, rfl, HN.out⟩
                    case measure => simp [intOf]; omega
                  | true =>
                    by_cases hz : z = -((j : Int) + 1)
                    · have HN := Lib.hid (show IsB false (∀ p, p < q + 1 → C.getD p 0 ≠ -((j : Int) + 1)) from ⟨⟨(fun h => by cases h), fun h => absurd (EZ.out.trans hz) (h q (by omega))⟩⟩)
                      subst hz
                      have hzb : (-((j : Int) + 1) != -((j : Int) + 1)) = false := by simp
                      go_wp2
                      go_round
                      case rel => exact ⟨q + 1, false, by omega, by go_num, rfl, HN.out⟩
                      case measure => simp [intOf]; omega
                    · have HN := Lib.hid (show IsB true (∀ p, p < q + 1 → C.getD p 0 ≠ -((j : Int) + 1)) from ⟨⟨fun _ p hp => by
                        by_cases e : p = q
                        · subst e; rw [EZ.out]; exact hz
                        · exact HB.out.out.1 rfl p (by omega), fun _ => rfl⟩⟩)
                      have hzb : (z != -((j : Int) + 1)) = true := bne_iff_ne.2 hz
                      go_wp2
                      go_round
                      case rel => exact ⟨q + 1, true, by omega, by go_num, rfl, HN.out⟩
                      case measure => simp [intOf]; omega
                · obtain rfl : q = cl := by omega
                  cases b with
                  | true =>
                    have NX := Lib.hid (XYj.out (XDj.out.2 (HB.out.out.1 rfl)))
                    clear HB XDj XYj XNj
                    go_wp2_with (at_builtin; go_loud (refine wpList_appInt rfl _ _ rfl ((j : Int) + 1) (exZ C j) _ _ rfl rfl (JR.out.keep (below1 _ _)) (blk_new _ _ rfl) LN2.out ?_))
                    intro v' w3 hir
                    have IN := Lib.hid (NX.out ▸ hir)
                    clear hir
                    go_wp2
                    go_roundw
                    case rel => exact ⟨j + 1, by omega, by go_num, IN.out⟩
                    case measure => simp [intOf]; omega
                  | false =>
                    have NX := Lib.hid (XNj.out (by
                      cases h : exP C j with
                      | false => rfl
                      | true => exact absurd (HB.out.out.2 (XDj.out.1 h)) (by decide)))
                    have IN := Lib.hid (NX.out ▸ JR.out)
                    clear HB XDj XYj XNj
                    go_wp2
                    go_roundw
                    case rel => exact ⟨j + 1, by omega, by go_num, IN.out⟩
                    case measure => simp [intOf]; omega
            · obtain rfl : j = n := by omega
              have hjn : ¬ ((j : Int) + 1 ≤ (j : Int)) := by omega
              go_wp2
              go_ret2
              exact ⟨_, by rw [X2.out]; rfl, by rw [X1.out]; exact JR.out.wide BW.out⟩
end Go.Proofs.YtpekdmocgjjhnaaGreat

/- ResolvePositions of the reference: what is no logical subscript and no text. -/
namespace Go.Proofs.YtpekdmocgjjhnaaGreat
open Go.RowKit
set_option maxRecDepth 100000
set_option linter.unusedVariables false

set_option maxHeartbeats 8000000 in
theorem specResolveA (d : Nat) (v : Vec) (val : Value) (n : Int) (nms : List ByteArray) (na : Option Addr) (nc lo hi lo2 hi2 : Nat) (w : World) (hv : VecAt lo hi w d v val) (hhi : hi ≤ w.heap.size) (hsm : Small d v) (hT : TextsAt lo2 hi2 w na nms) (hh2 : hi2 ≤ w.heap.size) (ln2 : nms.length ≤ 1048576) (hA : ¬ (ValidV v ∧ NmOk n nms ∧ (kindV v = 1 ∨ kindV v = 3 ∨ kindV v = 0))) :
    Calls Tryz.prog 19 #[.int .i64 n, .slice na nms.length nc, val] w (ResZ (rsZ n nms v) (rsS n nms v) w) := by
  have C1 := Lib.hid (fun (w1 : World) (hb : Below w.heap.size w w1) => specIsVector d v val lo hi w1 (hv.below hb hhi) (Nat.le_trans hhi hb.size) hsm)
  obtain ⟨VV, hVV⟩ : ∃ V, v = V := ⟨_, rfl⟩
  rw [hVV] at C1 ⊢
  obtain ⟨kk, items, parts, names, cls, levels, code, env⟩ := v
  obtain ⟨d', ai, ci, ap, cp, an, cn, ac, cc, al, cl, ed, rfl, hI, hN, hC, hL, hP⟩ := vecAt_open hv
  subst ed
  have XK : kindV VV = kk := by rw [← hVV]; rfl
  have XY := Lib.hid (fun (h : ValidV VV) (h2 : NmOk n nms) => (by rw [← hVV] at h ⊢; exact rs_yes h h2 : rsZ n nms VV = rkZ kk items nms n.toNat ∧ rsS n nms VV = rkS kk items))
  have XF := Lib.hid (fun (h : ValidV VV) => (by rw [← hVV] at h; exact h.1.flat : FlatOk kk items parts.length names cls levels code env))
  have HI := Lib.hid (fun (W : World) (hb : Below w.heap.size w W) => hI.below hb hhi)
  have HT := Lib.hid (fun (W : World) (hb : Below w.heap.size w W) => hT.below hb hh2)
  clear hv hI hN hC hL hP hsm hT
  obtain ⟨wA, hwA⟩ : ∃ W, w.alloc (.cells #[.int .i64 kk, .slice ai items.length ci, .slice ap parts.length cp, .slice an names.length cn, .slice ac cls.length cc, .slice al levels.length cl, .int .i64 code, .int .i64 env] 31) = W := ⟨_, rfl⟩
  have BA := Lib.hid (show Below w.heap.size w wA from hwA ▸ below1 w _)
  have KA := Lib.hid (show wA.heap[w.heap.size]? = some (.cells #[.int .i64 kk, .slice ai items.length ci, .slice ap parts.length cp, .slice an names.length cn, .slice ac cls.length cc, .slice al levels.length cl, .int .i64 code, .int .i64 env] 31 (0, 0)) from hwA ▸ blk_new w _ rfl)
  have hsA : wA.heap.size = w.heap.size + 1 := by rw [← hwA]; simp
  have HSA := Lib.hid (show w.heap.size < wA.heap.size by omega)
  obtain ⟨w1, hw1⟩ : ∃ W, wA.alloc (.cells #[] 3) = W := ⟨_, rfl⟩
  have ST := Lib.hid (show IntZ wA w1 [] (.slice (some ⟨w.heap.size + 1, 0, none⟩) 0 0) from hsA ▸ hw1 ▸ IntZ.nil0 wA wA (Below.refl _ _))
  have EWA := Lib.hid hwA
  have EW1 := Lib.hid hw1
  clear hwA hw1 hsA
  rw [hVV] at hA
  go_enter Tryz.func19, Tryz.ntmps19
  go_wp2_with fail
  rw [EWA.out, EW1.out]
  clear EWA EW1
  with_reducible refine (C1.out _ (below_then BA.out ST.out.below)).mono ?_
  rintro e w2 ⟨rfl, b⟩
  have ST := Lib.hid (ST.out.keep b)
  clear b C1
  by_cases q : ValidV VV
  · rw [bB_yes q]
    by_cases h2 : NmOk n nms
    · have hA2 : ¬ (kk = 1 ∨ kk = 3 ∨ kk = 0) := fun e => hA ⟨q, h2, XK ▸ e⟩
      have hF := XF.out q
      have hk := hF.h_kind
      have hlen := hF.h_len
      have hit := hF.h_items
      have hnull := hF.h_null
      obtain ⟨x1, x2⟩ := XY.out q h2
      have X1 := Lib.hid x1
      have X2 := Lib.hid x2
      obtain ⟨n0, n40, hnm⟩ := h2
      obtain ⟨N, rfl⟩ : ∃ N : Nat, n = N := ⟨n.toNat, by omega⟩
      have hNN : (N : Int).toNat = N := rfl
      rw [hNN] at X1
      have hl40 : ¬ kk = 5 → items.length ≤ 40 := fun h => by unfold lenV at hlen; rw [if_neg h] at hlen; omega
      have HIT := Lib.hid hit
      have CL := Lib.hid (fun W => by have h := l1In_any (N : Int) 0 40 W; rw [decide_eq_true ⟨n0, n40⟩] at h; exact h)
      have hnm' : nms.length = 0 ∨ nms.length = N := by omega
      have hnp : (((nms.length : Nat) : Int) != 0) = false ∨ ((((nms.length : Nat) : Int) != 0) = true ∧ (((nms.length : Nat) : Int) != (N : Int)) = false) := by
        rcases hnm' with e | e
        · exact .inl (by rw [e]; rfl)
        · by_cases e0 : nms.length = 0
          · exact .inl (by rw [e0]; rfl)
          · exact .inr ⟨bne_iff_ne.2 (by omega), by rw [e]; simp⟩
      clear x1 x2 hF XF XY hlen hit hNN
      have NUM := Lib.hid (fun (h3 : kk = 2) (W : World) (hb : Below w.heap.size w W) => specNumbers items ai ci lo hi N W (HI.out W hb) (Nat.le_trans hhi hb.size) (by have := hl40 (by omega); omega) (by omega) (fun i hi => numIt_of (HIT.out i hi).1 (by omega)))
      have KA2 := Lib.hid (show w2.heap[w.heap.size]? = some (.cells #[.int .i64 kk, .slice ai items.length ci, .slice ap parts.length cp, .slice an names.length cn, .slice ac cls.length cc, .slice al levels.length cl, .int .i64 code, .int .i64 env] 31 (0, 0)) from (ST.out.below.block _ HSA.out).trans KA.out)
      obtain ⟨k0, k1, k2, k3, k4, k5, k6, k7⟩ := vec8 KA2.out
      have W2N := Lib.hid (show Below w.heap.size w w2 from below_then BA.out ST.out.below)
      have hkk : 4 ≤ kk ∨ kk = 2 := by omega
      clear q hA hVV XK
      rcases hkk with hk4 | rfl
      · have X1 := Lib.hid (X1.out.trans (rk_list hk4).1)
        have X2 := Lib.hid (X2.out.trans (rk_list hk4 (names := []) (n := 0)).2)
        clear NUM HIT hl40 HI HT hnm'
        rcases hnp with hnp | ⟨hnp, hnq⟩
        · go_wp2_with fail
          refine (CL.out _).mono ?_
          rintro e wq ⟨rfl, rfl⟩
          go_wp2
          go_ret2
          exact ⟨_, by rw [X2.out]; rfl, by rw [X1.out]; exact ST.out.wide BA.out⟩
        · go_wp2_with fail
          refine (CL.out _).mono ?_
          rintro e wq ⟨rfl, rfl⟩
          go_wp2
          go_ret2
          exact ⟨_, by rw [X2.out]; rfl, by rw [X1.out]; exact ST.out.wide BA.out⟩
      · have X1 := Lib.hid (X1.out.trans rk_num.1)
        have X2 := Lib.hid (X2.out.trans (rk_num (names := []) (n := 0)).2)
        clear HIT hl40 HI HT hnm'
        rcases hnp with hnp | ⟨hnp, hnq⟩
        · go_wp2_with fail
          refine (CL.out _).mono ?_
          rintro e wq ⟨rfl, rfl⟩
          go_wp2_with fail
          refine (NUM.out (by first | trivial | rfl) _ W2N.out).mono ?_
          rintro e w4 ⟨v, rfl, hz⟩
          have HZ := Lib.hid (hz.wide W2N.out)
          clear hz
          go_wp2
          go_ret2
          exact ⟨_, by rw [X2.out]; rfl, by rw [X1.out]; exact HZ.out⟩
        · go_wp2_with fail
          refine (CL.out _).mono ?_
          rintro e wq ⟨rfl, rfl⟩
          go_wp2_with fail
          refine (NUM.out (by first | trivial | rfl) _ W2N.out).mono ?_
          rintro e w4 ⟨v, rfl, hz⟩
          have HZ := Lib.hid (hz.wide W2N.out)
          clear hz
          go_wp2
          go_ret2
          exact ⟨_, by rw [X2.out]; rfl, by rw [X1.out]; exact HZ.out⟩
    · have XX := Lib.hid (rs_names q h2)
      have EN := Lib.hid (show ResZ (rsZ n nms VV) (rsS n nms VV) w (.returned (.tuple #[.slice (some ⟨w.heap.size + 1, 0, none⟩) 0 0, .string innB])) w2 from ⟨_, by rw [XX.out.2], by rw [XX.out.1]; exact ST.out.wide BA.out⟩)
      have CL := Lib.hid (fun W => l1In_any n 0 40 W)
      obtain ⟨ln, hln⟩ : ∃ x, nms.length = x := ⟨_, rfl⟩
      have hno : ¬ (0 ≤ n ∧ n ≤ 40 ∧ (ln = 0 ∨ (ln : Int) = n)) := by rw [← hln]; exact h2
      rw [hln]
      clear q XY XF HI HT h2 hln ln2 XX hA hVV XK
      by_cases hn : 0 ≤ n ∧ n ≤ 40
      · have CL := Lib.hid (fun W => by have h := CL.out W; rw [decide_eq_true hn] at h; exact h)
        have h3 : 0 < ln ∧ ¬ (ln : Int) = n := by omega
        obtain ⟨h3, h4⟩ := h3
        have h3' : ¬ ln = 0 := by omega
        have h3b : ((ln : Int) != 0) = true := bne_iff_ne.2 (by omega)
        have h4' : ((ln : Int) != n) = true := bne_iff_ne.2 h4
        clear hno
        go_wp2_with fail
        refine (CL.out _).mono ?_
        rintro e wq ⟨rfl, rfl⟩
        go_wp2
        go_ret2
        exact EN.out
      · have CL := Lib.hid (fun W => by have h := CL.out W; rw [decide_eq_false hn] at h; exact h)
        clear hno hn
        go_wp2_with fail
        refine (CL.out _).mono ?_
        rintro e wq ⟨rfl, rfl⟩
        go_wp2
        go_ret2
        exact EN.out
  · rw [bB_no q]
    have XX := Lib.hid (rs_bad (n := n) (names := nms) q)
    clear q XY XF hA hVV XK
    go_wp2
    go_ret2
    exact ⟨_, by rw [XX.out.2]; rfl, by rw [XX.out.1]; exact ST.out.wide BA.out⟩
end Go.Proofs.YtpekdmocgjjhnaaGreat

/- ResolvePositions of the reference: logical subscripts. -/
namespace Go.Proofs.YtpekdmocgjjhnaaGreat
open Go.RowKit
set_option maxRecDepth 100000
set_option linter.unusedVariables false

theorem name_row {w0 wx : World} {n B : Nat} {X : Array Value} {t : TypeId} (h1 : Below B w0 (wx.setRow n X)) (h2 : (wx.setRow n X).heap[n]? = some (.cells X t (0, 0))) : ∃ W, wx.setRow n X = W ∧ Below B w0 W ∧ W.heap[n]? = some (.cells X t (0, 0)) := ⟨_, rfl, h1, h2⟩
set_option maxHeartbeats 16000000 in
theorem specResolveL (d : Nat) (v : Vec) (val : Value) (n : Int) (nms : List ByteArray) (na : Option Addr) (nc lo hi lo2 hi2 : Nat) (w : World) (hv : VecAt lo hi w d v val) (hhi : hi ≤ w.heap.size) (hsm : Small d v) (hT : TextsAt lo2 hi2 w na nms) (hh2 : hi2 ≤ w.heap.size) (ln2 : nms.length ≤ 1048576) (q : ValidV v) (h2 : NmOk n nms) (hk1 : kindV v = 1) :
    Calls Tryz.prog 19 #[.int .i64 n, .slice na nms.length nc, val] w (ResZ (rsZ n nms v) (rsS n nms v) w) := by
  have C1 := Lib.hid (fun (w1 : World) (hb : Below w.heap.size w w1) => specIsVector d v val lo hi w1 (hv.below hb hhi) (Nat.le_trans hhi hb.size) hsm)
  obtain ⟨VV, hVV⟩ : ∃ V, v = V := ⟨_, rfl⟩
  rw [hVV] at C1 ⊢
  obtain ⟨kk, items, parts, names, cls, levels, code, env⟩ := v
  obtain ⟨d', ai, ci, ap, cp, an, cn, ac, cc, al, cl, ed, rfl, hI, hN, hC, hL, hP⟩ := vecAt_open hv
  subst ed
  have XK : kindV VV = kk := by rw [← hVV]; rfl
  have XY := Lib.hid (fun (h : ValidV VV) (h2 : NmOk n nms) => (by rw [← hVV] at h ⊢; exact rs_yes h h2 : rsZ n nms VV = rkZ kk items nms n.toNat ∧ rsS n nms VV = rkS kk items))
  have XF := Lib.hid (fun (h : ValidV VV) => (by rw [← hVV] at h; exact h.1.flat : FlatOk kk items parts.length names cls levels code env))
  have HI := Lib.hid (fun (W : World) (hb : Below w.heap.size w W) => hI.below hb hhi)
  have HT := Lib.hid (fun (W : World) (hb : Below w.heap.size w W) => hT.below hb hh2)
  clear hv hI hN hC hL hP hsm hT
  obtain ⟨wA, hwA⟩ : ∃ W, w.alloc (.cells #[.int .i64 kk, .slice ai items.length ci, .slice ap parts.length cp, .slice an names.length cn, .slice ac cls.length cc, .slice al levels.length cl, .int .i64 code, .int .i64 env] 31) = W := ⟨_, rfl⟩
  have BA := Lib.hid (show Below w.heap.size w wA from hwA ▸ below1 w _)
  have KA := Lib.hid (show wA.heap[w.heap.size]? = some (.cells #[.int .i64 kk, .slice ai items.length ci, .slice ap parts.length cp, .slice an names.length cn, .slice ac cls.length cc, .slice al levels.length cl, .int .i64 code, .int .i64 env] 31 (0, 0)) from hwA ▸ blk_new w _ rfl)
  have hsA : wA.heap.size = w.heap.size + 1 := by rw [← hwA]; simp
  have HSA := Lib.hid (show w.heap.size < wA.heap.size by omega)
  obtain ⟨w1, hw1⟩ : ∃ W, wA.alloc (.cells #[] 3) = W := ⟨_, rfl⟩
  have ST := Lib.hid (show IntZ wA w1 [] (.slice (some ⟨w.heap.size + 1, 0, none⟩) 0 0) from hsA ▸ hw1 ▸ IntZ.nil0 wA wA (Below.refl _ _))
  have EWA := Lib.hid hwA
  have EW1 := Lib.hid hw1
  clear hwA hw1 hsA
  rw [hVV] at q hk1
  rw [XK] at hk1
  subst hk1
  go_enter Tryz.func19, Tryz.ntmps19
  go_wp2_with fail
  rw [EWA.out, EW1.out]
  clear EWA EW1
  with_reducible refine (C1.out _ (below_then BA.out ST.out.below)).mono ?_
  rintro e w2 ⟨rfl, b⟩
  have ST := Lib.hid (ST.out.keep b)
  clear b C1
  rw [bB_yes q]
  have hF := XF.out q
  have hk := hF.h_kind
  have hlen := hF.h_len
  have hit := hF.h_items
  have hnull := hF.h_null
  obtain ⟨x1, x2⟩ := XY.out q h2
  have X1 := Lib.hid x1
  have X2 := Lib.hid x2
  obtain ⟨n0, n40, hnm⟩ := h2
  obtain ⟨N, rfl⟩ : ∃ N : Nat, n = N := ⟨n.toNat, by omega⟩
  have hNN : (N : Int).toNat = N := rfl
  rw [hNN] at X1
  have hl40 : ¬ (1 : Int) = 5 → items.length ≤ 40 := fun h => by unfold lenV at hlen; rw [if_neg h] at hlen; omega
  have HIT := Lib.hid hit
  have CL := Lib.hid (fun W => by have h := l1In_any (N : Int) 0 40 W; rw [decide_eq_true ⟨n0, n40⟩] at h; exact h)
  have hnm' : nms.length = 0 ∨ nms.length = N := by omega
  have hnp : (((nms.length : Nat) : Int) != 0) = false ∨ ((((nms.length : Nat) : Int) != 0) = true ∧ (((nms.length : Nat) : Int) != (N : Int)) = false) := by
    rcases hnm' with e | e
    · exact .inl (by rw [e]; rfl)
    · by_cases e0 : nms.length = 0
      · exact .inl (by rw [e0]; rfl)
      · exact .inr ⟨bne_iff_ne.2 (by omega), by rw [e]; simp⟩
  clear x1 x2 hF XF XY hlen hit hNN
  have KA2 := Lib.hid (show w2.heap[w.heap.size]? = some (.cells #[.int .i64 1, .slice ai items.length ci, .slice ap parts.length cp, .slice an names.length cn, .slice ac cls.length cc, .slice al levels.length cl, .int .i64 code, .int .i64 env] 31 (0, 0)) from (ST.out.below.block _ HSA.out).trans KA.out)
  obtain ⟨k0, k1, k2, k3, k4, k5, k6, k7⟩ := vec8 KA2.out
  have W2N := Lib.hid (show Below w.heap.size w w2 from below_then BA.out ST.out.below)
  clear q hVV XK
  have X1 := Lib.hid (X1.out.trans rk_lgc.1)
  have X2 := Lib.hid (X2.out.trans (rk_lgc (items := items) (names := []) (n := 0)).2)
  have AI := Lib.hid (fun (k : Nat) (W : World) (hk : k < items.length) (hb : Below w.heap.size w W) => (HI.out W hb).at_ hk)
  have LT := Lib.hid (fun k (hk : k < items.length) => (by rcases (HIT.out k hk).1 with h | ⟨_, h1, h2, h3, _⟩ | ⟨h, _⟩ | ⟨h, _⟩; exact .inl h; exact .inr ⟨h1, h2, h3⟩; exact absurd h (by decide); exact absurd h (by decide) : items.getD k noI = noI ∨ (items.getD k noI).d = 1 ∧ 0 ≤ (items.getD k noI).n ∧ (items.getD k noI).n ≤ 1))
  have LE := Lib.hid (lgP_len items)
  have PM := Lib.hid (fun k h => lgP_miss (l := items) (k := k) h)
  have PY := Lib.hid (fun k h => lgP_yes (l := items) (k := k) h)
  have PN := Lib.hid (fun k h => lgP_no (l := items) (k := k) h)
  have ST := Lib.hid (show IntZ wA w2 (lgP items 0) (.slice (some ⟨w.heap.size + 1, 0, none⟩) 0 0) from ST.out)
  have L40 := hl40 (by decide)
  by_cases h0 : items.length = 0
  · have EM := lgM_zero (n := N) h0
    rw [EM] at X1
    rw [h0] at k1
    clear HIT hl40 HI HT hnm' AI LT LE PM PY PN EM h0 L40
    rcases hnp with hnp | ⟨hnp, hnq⟩
    · go_wp2_with fail
      refine (CL.out _).mono ?_
      rintro e wq ⟨rfl, rfl⟩
      go_wp2
      go_loopw [8, 11] (fun v i wr => v = .slice (some ⟨w.heap.size + 1, 0, none⟩) 0 0 ∧ i = .int .i64 0 ∧ wr = w2) (fun _ _ _ => 0)
      case atStart => exact ⟨rfl, rfl, rfl⟩
      case round =>
        obtain ⟨rfl, rfl, rfl⟩ := hrel
        go_wp2
        go_ret2
        exact ⟨_, by rw [X2.out]; rfl, by rw [X1.out]; exact ST.out.wide BA.out⟩
    · go_wp2_with fail
      refine (CL.out _).mono ?_
      rintro e wq ⟨rfl, rfl⟩
      go_wp2
      go_loopw [8, 11] (fun v i wr => v = .slice (some ⟨w.heap.size + 1, 0, none⟩) 0 0 ∧ i = .int .i64 0 ∧ wr = w2) (fun _ _ _ => 0)
      case atStart => exact ⟨rfl, rfl, rfl⟩
      case round =>
        obtain ⟨rfl, rfl, rfl⟩ := hrel
        go_wp2
        go_ret2
        exact ⟨_, by rw [X2.out]; rfl, by rw [X1.out]; exact ST.out.wide BA.out⟩
  · have EM := lgM_pos (n := N) h0
    obtain ⟨m, hm⟩ : ∃ m, lgM items N = m := ⟨_, rfl⟩
    rw [hm] at EM X1
    obtain ⟨L, hL⟩ : ∃ L, items.length = L := ⟨_, rfl⟩
    rw [hL] at AI LT PM PY PN EM L40 h0 k1
    have KA := Lib.hid (hL ▸ KA.out)
    have hLp : 0 < L := by omega
    have hLi : (0 : Int) < (L : Int) := by omega
    have h0b : ((L : Int) == 0) = false := beq_eq_false_iff_ne.2 (by omega)
    have hm40 : m ≤ 40 := by omega
    obtain ⟨l, hl⟩ : ∃ l, items = l := ⟨_, rfl⟩
    rw [hl] at LT LE PM PY PN ST X1 AI
    have hmx : (if (N : Int) < (L : Int) then (L : Int) else (N : Int)) = (m : Int) := by rw [EM]; split <;> omega
    have hmy : (if N < L then (L : Int) else (N : Int)) = (m : Int) := by rw [EM]; split <;> omega
    clear HIT hl40 HI HT hnm' hm EM h0 KA2 n0 n40 hnm
    rcases hnp with hnp | ⟨hnp, hnq⟩
    · go_wp2_with fail
      refine (CL.out _).mono ?_
      rintro e wq ⟨rfl, rfl⟩
      go_wp2
      go_loopw [8, 11] (fun v i wr => ∃ k : Nat, k ≤ m ∧ i = .int .i64 k ∧ IntZ wA wr (lgP l k) v) (fun _ i _ => m - (intOf i).toNat)
      case atStart => exact ⟨0, Nat.zero_le _, rfl, ST.out⟩
      case round =>
        obtain ⟨k, hk, rfl, hir⟩ := hrel
        have IR := Lib.hid hir
        clear hir
        have KAr := Lib.hid (show wr.heap[w.heap.size]? = some (.cells #[.int .i64 1, .slice ai L ci, .slice ap parts.length cp, .slice an names.length cn, .slice ac cls.length cc, .slice al levels.length cl, .int .i64 code, .int .i64 env] 31 (0, 0)) from (IR.out.below.block _ HSA.out).trans KA.out)
        by_cases hlt : k < m
        · have hmk0 : k % L < L := Nat.mod_lt k hLp
          obtain ⟨ba, off, rfl, hbB, c0, c1, c2'⟩ := AI.out (k % L) wr hmk0 (below_then BA.out IR.out.below)
          have c2 : wr.cell? ⟨ba, off + k % L * 3 + 2, none⟩ = some (.string (l.getD (k % L) noI).t) := c2'
          have LN := Lib.hid (show (lgP l k).length ≤ 1048576 by have := LE.out k; omega)
          have P1 := Lib.hid (PM.out k)
          have P2 := Lib.hid (PY.out k)
          have P3 := Lib.hid (PN.out k)
          have IT := LT.out (k % L) hmk0
          have hbw : ba < wr.heap.size := Nat.lt_of_lt_of_le hbB (Nat.le_trans hhi (Nat.le_trans BA.out.size IR.out.below.size))
          obtain ⟨x, hx⟩ : ∃ x, l.getD (k % L) noI = x := ⟨_, rfl⟩
          rw [hx] at c0 c1 c2 P1 P2 P3 IT
          have HMOD := Lib.hid (show (k : Int).tmod (L : Int) = ((k % L : Nat) : Int) from rfl)
          obtain ⟨q, hq⟩ : ∃ q, k % L = q := ⟨_, rfl⟩
          have hmk : q < L := hq ▸ hmk0
          rw [hq] at c0 c1 c2 HMOD
          have H := Lib.hid (show HeldC wr wr [(w.heap.size, 31, #[.int .i64 1, .slice (some ⟨ba, off, none⟩) L ci, .slice ap parts.length cp, .slice an names.length cn, .slice ac cls.length cc, .slice al levels.length cl, .int .i64 code, .int .i64 env])] from heldC_one (Below.refl _ _) KAr.out)
          obtain ⟨k0, k1, k2, k3, k4, k5, k6, k7⟩ := vec8 KAr.out
          clear hx c2' hq
          go_upto_region 15 with (fail)
          clear k0 k1 k2 k3 k4 k5 k6 k7
          refine run_regionT (ops := (opsOf Tryz.f19 15)) (S := fun w' => HeldC wr w' ([(w.heap.size, 31, #[.int .i64 1, .slice (some ⟨ba, off, none⟩) L ci, .slice ap parts.length cp, .slice an names.length cn, .slice ac cls.length cc, .slice al levels.length cl, .int .i64 code, .int .i64 env])])) (.leaf [(0, true), (1, true), (2, true), (3, true), (4, true), (5, true), (6, true), (7, true), (8, true), (9, false), (10, false)]) (by kernel_rfl) (by kernel_rfl) (by kernel_rfl) (by kernel_rfl) (by kernel_rfl) (fun _ _ _ _ _ h => h) (heldC_drew H.out) ?_
          have H := Lib.hid (heldC_drew H.out)
          refine runC_partV (b := w.heap.size) (by kernel_rfl) (show opAt (opsOf Tryz.f19 15) 0 = some (some 76, .fieldAddr 31 (.tmp 5) 1, none) from by kernel_rfl) (by kernel_rfl) (by kernel_rfl) (by kernel_rfl) ?_
          refine runC_cell (b := w.heap.size) (j := 1) (v := .slice (some ⟨ba, off, none⟩) L ci) load_its (show opAt (opsOf Tryz.f19 15) 1 = some (some 77, .load 28 (.tmp 76), none) from by kernel_rfl) (by kernel_rfl) (by kernel_rfl) (by kernel_rfl) (List.Mem.head _) rfl ?_
          refine run_mov (v := .int .i64 ((k : Int))) (show opAt (opsOf Tryz.f19 15) 2 = some (some 78, .move (.tmp 11), none) from by kernel_rfl) (by kernel_rfl) (by kernel_rfl) (by kernel_rfl) ?_
          refine runC_partV (b := w.heap.size) (by kernel_rfl) (show opAt (opsOf Tryz.f19 15) 3 = some (some 79, .fieldAddr 31 (.tmp 5) 1, none) from by kernel_rfl) (by kernel_rfl) (by kernel_rfl) (by kernel_rfl) ?_
          refine runC_cell (b := w.heap.size) (j := 1) (v := .slice (some ⟨ba, off, none⟩) L ci) load_its (show opAt (opsOf Tryz.f19 15) 4 = some (some 80, .load 28 (.tmp 79), none) from by kernel_rfl) (by kernel_rfl) (by kernel_rfl) (by kernel_rfl) (List.Mem.head _) rfl ?_
          refine run_len (b := (some ⟨ba, off, none⟩)) (n := L) (c := ci) (show opAt (opsOf Tryz.f19 15) 5 = some (some 81, .call { callee := .builtin .len, args := [(.tmp 80)].toArray, argTypes := [28].toArray }, none) from by kernel_rfl) (by kernel_rfl) (by kernel_rfl) (by kernel_rfl) (by kernel_rfl) ?_
          refine run_rem (k := .i64) (p := (k : Int)) (q := (L : Int)) (z := ((q : Nat) : Int)) (show opAt (opsOf Tryz.f19 15) 6 = some (some 82, .binOp .rem 3 (.tmp 78) (.tmp 81) 3, none) from by kernel_rfl) (by kernel_rfl) (by kernel_rfl) (by kernel_rfl) (by kernel_rfl) ⟨by omega, by first | exact HMOD.out | (have := HMOD.out; simpa using this)⟩ ?_
          refine run_idx3 (n := L) (c := ci) (b := ba) (off := off) (k := q) (show opAt (opsOf Tryz.f19 15) 7 = some (some 83, .indexAddr 28 (.tmp 77) (.tmp 82), none) from by kernel_rfl) (by kernel_rfl) (by kernel_rfl) (by kernel_rfl) (by kernel_rfl) hmk ?_
          refine runC_oldI (b := ba) (j := off + q * 3) (z := x) (show opAt (opsOf Tryz.f19 15) 8 = some (some 84, .load 66 (.tmp 83), none) from by kernel_rfl) (by kernel_rfl) (by kernel_rfl) (by kernel_rfl) hbw c0 c1 c2 ?_
          refine run_new (C := #[.int .i64 0, .int .i64 0, .string ⟨#[]⟩]) (show opAt (opsOf Tryz.f19 15) 9 = some (some 12, .alloc 66, none) from by kernel_rfl) (by kernel_rfl) (by kernel_rfl) new_item (fun W9 n9 hW9 hn9 => ?_)
          subst hW9
          refine ⟨heldC_call H.out (below1 _ _), ?_⟩
          have N9 := Lib.hid (⟨blk_new _ _ hn9⟩ : NewB n9 66 #[.int .i64 0, .int .i64 0, .string ⟨#[]⟩] _)
          have G9 := Lib.hid (by rw [hn9]; exact H.out.1.size : wr.heap.size ≤ n9)
          have F9_0 := Lib.hid (by rw [hn9]; exact (Array.getElem?_eq_some_iff.1 (heldC_at H.out (List.Mem.head _))).1 : w.heap.size < n9)
          have H := Lib.hid (heldC_call H.out (below1 _ (.cells #[.int .i64 0, .int .i64 0, .string ⟨#[]⟩] 66)))
          have NE9 := Lib.hid hn9
          clear hn9
          refine run_last (by kernel_rfl) (show opAt (opsOf Tryz.f19 15) 10 = some (none, .store 66 (.tmp 12) (.tmp 84), none) from by kernel_rfl) (by kernel_rfl) (by kernel_rfl) (by kernel_rfl) (store_item (u := .int .i64 x.n) (v := .int .i64 x.d) (q := .string x.t) N9.out.out rfl rfl rfl) ?_
          refine run_done ?_
          simp only [putAll, Act.put, List.setIfInBounds_toArray, List.set_cons_zero, List.set_cons_succ]
          have F0 := F9_0.out
          have G0 := G9.out
          obtain ⟨wb, hwb, br, kx⟩ := name_row (below_row H.out.1 G0 #[.int .i64 x.n, .int .i64 x.d, .string x.t]) (row_set (c := #[.int .i64 x.n, .int .i64 x.d, .string x.t]) N9.out.out)
          rw [hwb]
          have KX := Lib.hid kx
          have BR := Lib.hid br
          clear hwb br kx G0 F0 H N9 G9 F9_0 NE9
          rcases IT with rfl | ⟨h1, h2, h3⟩
          · have NX := Lib.hid (P1.out rfl)
            clear P1 P2 P3
            have IR := Lib.hid (IR.out.keep BR.out)
            have c0x := cellOf KX.out (i := 0) rfl
            have c1x := cellOf KX.out (i := 1) rfl
            have c2x := cellOf KX.out (i := 2) rfl
            go_wp2_with (at_builtin; go_loud (refine wpList_appInt rfl _ _ rfl 0 (lgP l k) _ _ rfl rfl (IR.out.keep (below1 _ _)) (blk_new _ _ rfl) LN.out ?_))
            intro v' w3 hir
            have IN := Lib.hid (NX.out ▸ hir)
            clear hir
            go_wp2
            go_roundw
            case rel => exact ⟨k + 1, by omega, by go_num, IN.out⟩
            case measure => simp [intOf]; omega
          · have hd0 : ¬ x.d = 0 := by omega
            have hd0b : (x.d == 0) = false := beq_eq_false_iff_ne.2 hd0
            by_cases hn1 : x.n = 1
            · have NX := Lib.hid (P2.out (by unfold truthI; rw [if_neg hd0, if_neg (by omega)]))
              have hn1b : (x.n == 1) = true := by rw [hn1]; rfl
              clear P1 P2 P3
              have IR := Lib.hid (IR.out.keep BR.out)
              have c0x := cellOf KX.out (i := 0) rfl
              have c1x := cellOf KX.out (i := 1) rfl
              have c2x := cellOf KX.out (i := 2) rfl
              go_wp2_with (at_builtin; go_loud (refine wpList_appInt rfl _ _ rfl ((k : Int) + 1) (lgP l k) _ _ rfl rfl (IR.out.keep (below1 _ _)) (blk_new _ _ rfl) LN.out ?_))
              intro v' w3 hir
              have IN := Lib.hid (NX.out ▸ hir)
              clear hir
              go_wp2
              go_roundw
              case rel => exact ⟨k + 1, by omega, by go_num, IN.out⟩
              case measure => simp [intOf]; omega
            · have NX := Lib.hid (P3.out (by unfold truthI; rw [if_neg hd0, if_pos (by omega)]))
              have hn1b : (x.n == 1) = false := beq_eq_false_iff_ne.2 hn1
              clear P1 P2 P3
              have IR := Lib.hid (IR.out.keep BR.out)
              have c0x := cellOf KX.out (i := 0) rfl
              have c1x := cellOf KX.out (i := 1) rfl
              have c2x := cellOf KX.out (i := 2) rfl
              have IN := Lib.hid (NX.out ▸ IR.out)
              go_wp2
              go_roundw
              case rel => exact ⟨k + 1, by omega, by go_num, IN.out⟩
              case measure => simp [intOf]; omega
        · obtain rfl : k = m := by omega
          obtain ⟨k0, k1, k2, k3, k4, k5, k6, k7⟩ := vec8 KAr.out
          go_wp2
          go_ret2
          exact ⟨_, by rw [X2.out]; rfl, by rw [X1.out]; exact IR.out.wide BA.out⟩
    · go_wp2_with fail
      refine (CL.out _).mono ?_
      rintro e wq ⟨rfl, rfl⟩
      go_wp2
      go_loopw [8, 11] (fun v i wr => ∃ k : Nat, k ≤ m ∧ i = .int .i64 k ∧ IntZ wA wr (lgP l k) v) (fun _ i _ => m - (intOf i).toNat)
      case atStart => exact ⟨0, Nat.zero_le _, rfl, ST.out⟩
      case round =>
        obtain ⟨k, hk, rfl, hir⟩ := hrel
        have IR := Lib.hid hir
        clear hir
        have KAr := Lib.hid (show wr.heap[w.heap.size]? = some (.cells #[.int .i64 1, .slice ai L ci, .slice ap parts.length cp, .slice an names.length cn, .slice ac cls.length cc, .slice al levels.length cl, .int .i64 code, .int .i64 env] 31 (0, 0)) from (IR.out.below.block _ HSA.out).trans KA.out)
        by_cases hlt : k < m
        · have hmk0 : k % L < L := Nat.mod_lt k hLp
          obtain ⟨ba, off, rfl, hbB, c0, c1, c2'⟩ := AI.out (k % L) wr hmk0 (below_then BA.out IR.out.below)
          have c2 : wr.cell? ⟨ba, off + k % L * 3 + 2, none⟩ = some (.string (l.getD (k % L) noI).t) := c2'
          have LN := Lib.hid (show (lgP l k).length ≤ 1048576 by have := LE.out k; omega)
          have P1 := Lib.hid (PM.out k)
          have P2 := Lib.hid (PY.out k)
          have P3 := Lib.hid (PN.out k)
          have IT := LT.out (k % L) hmk0
          have hbw : ba < wr.heap.size := Nat.lt_of_lt_of_le hbB (Nat.le_trans hhi (Nat.le_trans BA.out.size IR.out.below.size))
          obtain ⟨x, hx⟩ : ∃ x, l.getD (k % L) noI = x := ⟨_, rfl⟩
          rw [hx] at c0 c1 c2 P1 P2 P3 IT
          have HMOD := Lib.hid (show (k : Int).tmod (L : Int) = ((k % L : Nat) : Int) from rfl)
          obtain ⟨q, hq⟩ : ∃ q, k % L = q := ⟨_, rfl⟩
          have hmk : q < L := hq ▸ hmk0
          rw [hq] at c0 c1 c2 HMOD
          have H := Lib.hid (show HeldC wr wr [(w.heap.size, 31, #[.int .i64 1, .slice (some ⟨ba, off, none⟩) L ci, .slice ap parts.length cp, .slice an names.length cn, .slice ac cls.length cc, .slice al levels.length cl, .int .i64 code, .int .i64 env])] from heldC_one (Below.refl _ _) KAr.out)
          obtain ⟨k0, k1, k2, k3, k4, k5, k6, k7⟩ := vec8 KAr.out
          clear hx c2' hq
          go_upto_region 15 with (fail)
          clear k0 k1 k2 k3 k4 k5 k6 k7
          refine run_regionT (ops := (opsOf Tryz.f19 15)) (S := fun w' => HeldC wr w' ([(w.heap.size, 31, #[.int .i64 1, .slice (some ⟨ba, off, none⟩) L ci, .slice ap parts.length cp, .slice an names.length cn, .slice ac cls.length cc, .slice al levels.length cl, .int .i64 code, .int .i64 env])])) (.leaf [(0, true), (1, true), (2, true), (3, true), (4, true), (5, true), (6, true), (7, true), (8, true), (9, false), (10, false)]) (by kernel_rfl) (by kernel_rfl) (by kernel_rfl) (by kernel_rfl) (by kernel_rfl) (fun _ _ _ _ _ h => h) (heldC_drew H.out) ?_
          have H := Lib.hid (heldC_drew H.out)
          refine runC_partV (b := w.heap.size) (by kernel_rfl) (show opAt (opsOf Tryz.f19 15) 0 = some (some 76, .fieldAddr 31 (.tmp 5) 1, none) from by kernel_rfl) (by kernel_rfl) (by kernel_rfl) (by kernel_rfl) ?_
          refine runC_cell (b := w.heap.size) (j := 1) (v := .slice (some ⟨ba, off, none⟩) L ci) load_its (show opAt (opsOf Tryz.f19 15) 1 = some (some 77, .load 28 (.tmp 76), none) from by kernel_rfl) (by kernel_rfl) (by kernel_rfl) (by kernel_rfl) (List.Mem.head _) rfl ?_
          refine run_mov (v := .int .i64 ((k : Int))) (show opAt (opsOf Tryz.f19 15) 2 = some (some 78, .move (.tmp 11), none) from by kernel_rfl) (by kernel_rfl) (by kernel_rfl) (by kernel_rfl) ?_
          refine runC_partV (b := w.heap.size) (by kernel_rfl) (show opAt (opsOf Tryz.f19 15) 3 = some (some 79, .fieldAddr 31 (.tmp 5) 1, none) from by kernel_rfl) (by kernel_rfl) (by kernel_rfl) (by kernel_rfl) ?_
          refine runC_cell (b := w.heap.size) (j := 1) (v := .slice (some ⟨ba, off, none⟩) L ci) load_its (show opAt (opsOf Tryz.f19 15) 4 = some (some 80, .load 28 (.tmp 79), none) from by kernel_rfl) (by kernel_rfl) (by kernel_rfl) (by kernel_rfl) (List.Mem.head _) rfl ?_
          refine run_len (b := (some ⟨ba, off, none⟩)) (n := L) (c := ci) (show opAt (opsOf Tryz.f19 15) 5 = some (some 81, .call { callee := .builtin .len, args := [(.tmp 80)].toArray, argTypes := [28].toArray }, none) from by kernel_rfl) (by kernel_rfl) (by kernel_rfl) (by kernel_rfl) (by kernel_rfl) ?_
          refine run_rem (k := .i64) (p := (k : Int)) (q := (L : Int)) (z := ((q : Nat) : Int)) (show opAt (opsOf Tryz.f19 15) 6 = some (some 82, .binOp .rem 3 (.tmp 78) (.tmp 81) 3, none) from by kernel_rfl) (by kernel_rfl) (by kernel_rfl) (by kernel_rfl) (by kernel_rfl) ⟨by omega, by first | exact HMOD.out | (have := HMOD.out; simpa using this)⟩ ?_
          refine run_idx3 (n := L) (c := ci) (b := ba) (off := off) (k := q) (show opAt (opsOf Tryz.f19 15) 7 = some (some 83, .indexAddr 28 (.tmp 77) (.tmp 82), none) from by kernel_rfl) (by kernel_rfl) (by kernel_rfl) (by kernel_rfl) (by kernel_rfl) hmk ?_
          refine runC_oldI (b := ba) (j := off + q * 3) (z := x) (show opAt (opsOf Tryz.f19 15) 8 = some (some 84, .load 66 (.tmp 83), none) from by kernel_rfl) (by kernel_rfl) (by kernel_rfl) (by kernel_rfl) hbw c0 c1 c2 ?_
          refine run_new (C := #[.int .i64 0, .int .i64 0, .string ⟨#[]⟩]) (show opAt (opsOf Tryz.f19 15) 9 = some (some 12, .alloc 66, none) from by kernel_rfl) (by kernel_rfl) (by kernel_rfl) new_item (fun W9 n9 hW9 hn9 => ?_)
          subst hW9
          refine ⟨heldC_call H.out (below1 _ _), ?_⟩
          have N9 := Lib.hid (⟨blk_new _ _ hn9⟩ : NewB n9 66 #[.int .i64 0, .int .i64 0, .string ⟨#[]⟩] _)
          have G9 := Lib.hid (by rw [hn9]; exact H.out.1.size : wr.heap.size ≤ n9)
          have F9_0 := Lib.hid (by rw [hn9]; exact (Array.getElem?_eq_some_iff.1 (heldC_at H.out (List.Mem.head _))).1 : w.heap.size < n9)
          have H := Lib.hid (heldC_call H.out (below1 _ (.cells #[.int .i64 0, .int .i64 0, .string ⟨#[]⟩] 66)))
          have NE9 := Lib.hid hn9
          clear hn9
          refine run_last (by kernel_rfl) (show opAt (opsOf Tryz.f19 15) 10 = some (none, .store 66 (.tmp 12) (.tmp 84), none) from by kernel_rfl) (by kernel_rfl) (by kernel_rfl) (by kernel_rfl) (store_item (u := .int .i64 x.n) (v := .int .i64 x.d) (q := .string x.t) N9.out.out rfl rfl rfl) ?_
          refine run_done ?_
          simp only [putAll, Act.put, List.setIfInBounds_toArray, List.set_cons_zero, List.set_cons_succ]
          have F0 := F9_0.out
          have G0 := G9.out
          obtain ⟨wb, hwb, br, kx⟩ := name_row (below_row H.out.1 G0 #[.int .i64 x.n, .int .i64 x.d, .string x.t]) (row_set (c := #[.int .i64 x.n, .int .i64 x.d, .string x.t]) N9.out.out)
          rw [hwb]
          have KX := Lib.hid kx
          have BR := Lib.hid br
          clear hwb br kx G0 F0 H N9 G9 F9_0 NE9
          rcases IT with rfl | ⟨h1, h2, h3⟩
          · have NX := Lib.hid (P1.out rfl)
            clear P1 P2 P3
            have IR := Lib.hid (IR.out.keep BR.out)
            have c0x := cellOf KX.out (i := 0) rfl
            have c1x := cellOf KX.out (i := 1) rfl
            have c2x := cellOf KX.out (i := 2) rfl
            go_wp2_with (at_builtin; go_loud (refine wpList_appInt rfl _ _ rfl 0 (lgP l k) _ _ rfl rfl (IR.out.keep (below1 _ _)) (blk_new _ _ rfl) LN.out ?_))
            intro v' w3 hir
            have IN := Lib.hid (NX.out ▸ hir)
            clear hir
            go_wp2
            go_roundw
            case rel => exact ⟨k + 1, by omega, by go_num, IN.out⟩
            case measure => simp [intOf]; omega
          · have hd0 : ¬ x.d = 0 := by omega
            have hd0b : (x.d == 0) = false := beq_eq_false_iff_ne.2 hd0
            by_cases hn1 : x.n = 1
            · have NX := Lib.hid (P2.out (by unfold truthI; rw [if_neg hd0, if_neg (by omega)]))
              have hn1b : (x.n == 1) = true := by rw [hn1]; rfl
              clear P1 P2 P3
              have IR := Lib.hid (IR.out.keep BR.out)
              have c0x := cellOf KX.out (i := 0) rfl
              have c1x := cellOf KX.out (i := 1) rfl
              have c2x := cellOf KX.out (i := 2) rfl
              go_wp2_with (at_builtin; go_loud (refine wpList_appInt rfl _ _ rfl ((k : Int) + 1) (lgP l k) _ _ rfl rfl (IR.out.keep (below1 _ _)) (blk_new _ _ rfl) LN.out ?_))
              intro v' w3 hir
              have IN := Lib.hid (NX.out ▸ hir)
              clear hir
              go_wp2
              go_roundw
              case rel => exact ⟨k + 1, by omega, by go_num, IN.out⟩
              case measure => simp [intOf]; omega
            · have NX := Lib.hid (P3.out (by unfold truthI; rw [if_neg hd0, if_pos (by omega)]))
              have hn1b : (x.n == 1) = false := beq_eq_false_iff_ne.2 hn1
              clear P1 P2 P3
              have IR := Lib.hid (IR.out.keep BR.out)
              have c0x := cellOf KX.out (i := 0) rfl
              have c1x := cellOf KX.out (i := 1) rfl
              have c2x := cellOf KX.out (i := 2) rfl
              have IN := Lib.hid (NX.out ▸ IR.out)
              go_wp2
              go_roundw
              case rel => exact ⟨k + 1, by omega, by go_num, IN.out⟩
              case measure => simp [intOf]; omega
        · obtain rfl : k = m := by omega
          obtain ⟨k0, k1, k2, k3, k4, k5, k6, k7⟩ := vec8 KAr.out
          go_wp2
          go_ret2
          exact ⟨_, by rw [X2.out]; rfl, by rw [X1.out]; exact IR.out.wide BA.out⟩
end Go.Proofs.YtpekdmocgjjhnaaGreat

/- ResolvePositions of the reference: texts, NULL. -/
namespace Go.Proofs.YtpekdmocgjjhnaaGreat
open Go.RowKit
set_option maxRecDepth 100000
set_option linter.unusedVariables false

theorem TxZ.wideT {w w2 w4 : World} {l : List ByteArray} {v : Value} (h : TxZ w2 w4 l v) (hb : Below w.heap.size w w2) : TxZ w w4 l v := by
  obtain ⟨⟨h1, h2⟩, h3⟩ := h
  refine ⟨⟨h1, h2.imp id ?_⟩, below_then hb h3⟩
  rintro ⟨g, cap, cur, e, hB, r⟩
  exact ⟨g, cap, cur, e, Nat.le_trans hb.size hB, r⟩
def lenS : Value → Nat
  | .slice _ n _ => n
  | _ => 0
theorem rk_text {kk : Int} {items : List It} {names : List ByteArray} {n : Nat} (h : kk = 3 ∨ (kk = 0 ∧ items.length = 0)) : rkZ kk items names n = teZ (padL names n) items ∧ rkS kk items = teS items := by
  rcases h with rfl | ⟨rfl, h⟩
  · exact rk_txt
  · have e := List.eq_nil_of_length_eq_zero h
    subst e
    obtain ⟨e1, e2⟩ := te_ok (K := padL names n) (l := []) (fun i hi => absurd hi (Nat.not_lt_zero _))
    rw [e1, e2]
    exact rk_null
set_option maxHeartbeats 16000000 in
theorem specResolveT (d : Nat) (v : Vec) (val : Value) (n : Int) (nms : List ByteArray) (na : Option Addr) (nc lo hi lo2 hi2 : Nat) (w : World) (hv : VecAt lo hi w d v val) (hhi : hi ≤ w.heap.size) (hsm : Small d v) (hT : TextsAt lo2 hi2 w na nms) (hh2 : hi2 ≤ w.heap.size) (ln2 : nms.length ≤ 1048576) (q : ValidV v) (h2 : NmOk n nms) (hk3 : kindV v = 3 ∨ kindV v = 0) :
    Calls Tryz.prog 19 #[.int .i64 n, .slice na nms.length nc, val] w (ResZ (rsZ n nms v) (rsS n nms v) w) := by
  have C1 := Lib.hid (fun (w1 : World) (hb : Below w.heap.size w w1) => specIsVector d v val lo hi w1 (hv.below hb hhi) (Nat.le_trans hhi hb.size) hsm)
  obtain ⟨VV, hVV⟩ : ∃ V, v = V := ⟨_, rfl⟩
  rw [hVV] at C1 ⊢
  obtain ⟨kk, items, parts, names, cls, levels, code, env⟩ := v
  obtain ⟨d', ai, ci, ap, cp, an, cn, ac, cc, al, cl, ed, rfl, hI, hN, hC, hL, hP⟩ := vecAt_open hv
  subst ed
  have XK : kindV VV = kk := by rw [← hVV]; rfl
  have XY := Lib.hid (fun (h : ValidV VV) (h2 : NmOk n nms) => (by rw [← hVV] at h ⊢; exact rs_yes h h2 : rsZ n nms VV = rkZ kk items nms n.toNat ∧ rsS n nms VV = rkS kk items))
  have XF := Lib.hid (fun (h : ValidV VV) => (by rw [← hVV] at h; exact h.1.flat : FlatOk kk items parts.length names cls levels code env))
  have HI := Lib.hid (fun (W : World) (hb : Below w.heap.size w W) => hI.below hb hhi)
  have HT := Lib.hid (fun (W : World) (hb : Below w.heap.size w W) => hT.below hb hh2)
  clear hv hI hN hC hL hP hsm hT
  obtain ⟨wA, hwA⟩ : ∃ W, w.alloc (.cells #[.int .i64 kk, .slice ai items.length ci, .slice ap parts.length cp, .slice an names.length cn, .slice ac cls.length cc, .slice al levels.length cl, .int .i64 code, .int .i64 env] 31) = W := ⟨_, rfl⟩
  have BA := Lib.hid (show Below w.heap.size w wA from hwA ▸ below1 w _)
  have KA := Lib.hid (show wA.heap[w.heap.size]? = some (.cells #[.int .i64 kk, .slice ai items.length ci, .slice ap parts.length cp, .slice an names.length cn, .slice ac cls.length cc, .slice al levels.length cl, .int .i64 code, .int .i64 env] 31 (0, 0)) from hwA ▸ blk_new w _ rfl)
  have hsA : wA.heap.size = w.heap.size + 1 := by rw [← hwA]; simp
  have HSA := Lib.hid (show w.heap.size < wA.heap.size by omega)
  obtain ⟨w1, hw1⟩ : ∃ W, wA.alloc (.cells #[] 3) = W := ⟨_, rfl⟩
  have ST := Lib.hid (show IntZ wA w1 [] (.slice (some ⟨w.heap.size + 1, 0, none⟩) 0 0) from hsA ▸ hw1 ▸ IntZ.nil0 wA wA (Below.refl _ _))
  have EWA := Lib.hid hwA
  have EW1 := Lib.hid hw1
  clear hwA hw1 hsA
  rw [hVV] at q hk3
  rw [XK] at hk3
  go_enter Tryz.func19, Tryz.ntmps19
  go_wp2_with fail
  rw [EWA.out, EW1.out]
  clear EWA EW1
  with_reducible refine (C1.out _ (below_then BA.out ST.out.below)).mono ?_
  rintro e w2 ⟨rfl, b⟩
  have ST := Lib.hid (ST.out.keep b)
  clear b C1
  rw [bB_yes q]
  have hF := XF.out q
  have hk := hF.h_kind
  have hlen := hF.h_len
  have hit := hF.h_items
  have hnull := hF.h_null
  obtain ⟨x1, x2⟩ := XY.out q h2
  have X1 := Lib.hid x1
  have X2 := Lib.hid x2
  obtain ⟨n0, n40, hnm⟩ := h2
  obtain ⟨N, rfl⟩ : ∃ N : Nat, n = N := ⟨n.toNat, by omega⟩
  have hNN : (N : Int).toNat = N := rfl
  rw [hNN] at X1
  have hl40 : ¬ kk = 5 → items.length ≤ 40 := fun h => by unfold lenV at hlen; rw [if_neg h] at hlen; omega
  have HIT := Lib.hid hit
  have CL := Lib.hid (fun W => by have h := l1In_any (N : Int) 0 40 W; rw [decide_eq_true ⟨n0, n40⟩] at h; exact h)
  have hnm' : nms.length = 0 ∨ nms.length = N := by omega
  have hnp : (((nms.length : Nat) : Int) != 0) = false ∨ ((((nms.length : Nat) : Int) != 0) = true ∧ (((nms.length : Nat) : Int) != (N : Int)) = false) := by
    rcases hnm' with e | e
    · exact .inl (by rw [e]; rfl)
    · by_cases e0 : nms.length = 0
      · exact .inl (by rw [e0]; rfl)
      · exact .inr ⟨bne_iff_ne.2 (by omega), by rw [e]; simp⟩
  clear x1 x2 hF XF XY hlen hit hNN
  have KA2 := Lib.hid (show w2.heap[w.heap.size]? = some (.cells #[.int .i64 kk, .slice ai items.length ci, .slice ap parts.length cp, .slice an names.length cn, .slice ac cls.length cc, .slice al levels.length cl, .int .i64 code, .int .i64 env] 31 (0, 0)) from (ST.out.below.block _ HSA.out).trans KA.out)
  obtain ⟨k0, k1, k2, k3, k4, k5, k6, k7⟩ := vec8 KA2.out
  have W2N := Lib.hid (show Below w.heap.size w w2 from below_then BA.out ST.out.below)
  clear q hVV XK
  have hkt : kk = 3 ∨ (kk = 0 ∧ items.length = 0) := by
    rcases hk3 with h | h
    · exact .inl h
    · exact .inr ⟨h, by have := (hnull h).1; omega⟩
  have RK := rk_text (names := nms) (n := N) hkt
  have X1 := Lib.hid (X1.out.trans RK.1)
  have X2 := Lib.hid (X2.out.trans RK.2)
  have HIT3 := Lib.hid (show ∀ i, i < items.length → ItOk 3 (items.getD i noI) from fun i hi => by
    rcases hkt with h | ⟨_, h⟩
    · have := (HIT.out i hi).1; rw [h] at this; exact this
    · omega)
  have L40 := hl40 (by omega)
  have hk4 : ¬ 4 ≤ kk := by omega
  have hk2b : (kk == 2) = false := beq_eq_false_iff_ne.2 (by omega)
  have hk1b : (kk == 1) = false := beq_eq_false_iff_ne.2 (by omega)
  have hnl : nms.length ≤ N := by omega
  have N40 : N ≤ 40 := by omega
  have PD := Lib.hid (show ∀ j, nms.length + j = N → nms ++ List.replicate j ⟨#[]⟩ = padL nms N from fun j hj => by unfold padL; rw [← hj, Nat.add_sub_cancel_left])
  have RJ := Lib.hid (show ∀ j, (nms ++ List.replicate j (⟨#[]⟩ : ByteArray)) ++ [⟨#[]⟩] = nms ++ List.replicate (j + 1) ⟨#[]⟩ from fun j => by rw [List.append_assoc, List.replicate_succ'])
  have RL := Lib.hid (show ∀ j, (nms ++ List.replicate j (⟨#[]⟩ : ByteArray)).length = nms.length + j from fun j => by rw [List.length_append, List.length_replicate])
  have AI := Lib.hid (fun (k : Nat) (W : World) (hk : k < items.length) (hb : Below w.heap.size w W) => (HI.out W hb).at_ hk)
  have KL := Lib.hid (fun k => (by have := txK_len (padL nms N) items k; rw [padL_len nms N hnl] at this; exact this : (txK (padL nms N) items k).length ≤ N + k))
  have PL := Lib.hid (txP_len (padL nms N) items)
  have PM := Lib.hid (fun k h => txP_miss (K := padL nms N) (l := items) (k := k) h)
  have PO := Lib.hid (fun k h0 h => txP_old (K := padL nms N) (l := items) (k := k) h0 h)
  have PN := Lib.hid (fun k h0 h => txP_new (K := padL nms N) (l := items) (k := k) h0 h)
  have KM := Lib.hid (fun k h => txK_miss (K := padL nms N) (l := items) (k := k) h)
  have KO := Lib.hid (fun k h => txK_old (K := padL nms N) (l := items) (k := k) h)
  have KN := Lib.hid (fun k h0 h => txK_new (K := padL nms N) (l := items) (k := k) h0 h)
  have TO := Lib.hid (fun h => te_ok (K := padL nms N) (l := items) h)
  have TB := Lib.hid (fun h => te_bad (K := padL nms N) (l := items) h)
  have K0 := Lib.hid (show txK (padL nms N) items 0 = padL nms N from rfl)
  have P0 := Lib.hid (show txP (padL nms N) items 0 = [] from rfl)
  have AT := Lib.hid (show AllT items ↔ ∀ i, i < items.length → OkT (items.getD i noI) from Iff.rfl)
  obtain ⟨K, hK⟩ : ∃ K : Nat → List ByteArray, txK (padL nms N) items = K := ⟨_, rfl⟩
  obtain ⟨Z, hZ⟩ : ∃ Z : Nat → List Int, txP (padL nms N) items = Z := ⟨_, rfl⟩
  rw [hK] at KL PO PN KM KO KN K0
  rw [hZ] at PL PM PO PN TO P0
  obtain ⟨PP, hPP⟩ : ∃ P, padL nms N = P := ⟨_, rfl⟩
  rw [hPP] at PD K0 TO TB X1
  obtain ⟨l, hl⟩ : ∃ l, items = l := ⟨_, rfl⟩
  rw [hl] at PO PN KM KO KN PM TO TB AT HIT3 AI L40 X1 X2 k1
  have KA := Lib.hid (hl ▸ KA.out)
  obtain ⟨m, hm⟩ : ∃ m, l.length = m := ⟨_, rfl⟩
  rw [hm] at AT HIT3 AI L40 TO k1
  have KA := Lib.hid (hm ▸ KA.out)
  obtain ⟨w3, hw3⟩ : ∃ W, w2.alloc (.cells #[] 9) = W := ⟨_, rfl⟩
  have B23 := Lib.hid (show Below w2.heap.size w2 w3 from hw3 ▸ below1 w2 _)
  have KS := Lib.hid (show w3.heap[w2.heap.size]? = some (.cells #[] 9 (0, 0)) from hw3 ▸ blk_new w2 _ rfl)
  have EW := Lib.hid hw3
  have HT3 := Lib.hid (HT.out w3 (below_then W2N.out B23.out))
  clear HIT hl40 HI HT hnm' RK hkt hnull hk hw3 hK hZ hPP hm KA2 hnm n0 n40 hk3
  rcases hnp with hnp | ⟨hnp, hnq⟩
  · go_wp2_with fail
    refine (CL.out _).mono ?_
    rintro e wq ⟨rfl, rfl⟩
    go_wp2_with (at_builtin; go_loud (rw [EW.out]; refine wpList_copyTz (w0 := w2) rfl _ _ rfl _ rfl (.inr ⟨w2.heap.size, Nat.le_refl _, rfl, KS.out⟩) B23.out na nc nms lo2 hi2 rfl HT3.out ln2 ?_))
    intro v13 w4 htz
    have I4 := Lib.hid (show IntZ wA w4 (Z 0) (.slice (some ⟨w.heap.size + 1, 0, none⟩) 0 0) from P0.out ▸ ST.out.keep htz.below)
    have T4 := Lib.hid (show TxZ wA w4 (nms ++ List.replicate 0 ⟨#[]⟩) v13 from by rw [List.replicate_zero, List.append_nil]; exact htz.wideT ST.out.below)
    clear htz k0 k1 k2 k3 k4 k5 k6 k7 EW KS B23 HT3
    obtain ⟨nn, hnn⟩ : ∃ x, nms.length = x := ⟨_, rfl⟩
    rw [hnn] at hnl RL PD
    clear hnn
    go_wp2
    go_loopw [13] (fun v13 wr => ∃ j : Nat, nn + j ≤ N ∧ TxZ wA wr (nms ++ List.replicate j ⟨#[]⟩) v13 ∧ IntZ wA wr (Z 0) (.slice (some ⟨w.heap.size + 1, 0, none⟩) 0 0)) (fun v13 _ => N - lenS v13)
    case atStart => exact ⟨0, hnl, T4.out, I4.out⟩
    case round =>
      obtain ⟨j, hj, ht, hz⟩ := hrel
      have TZ := Lib.hid ht
      have IZ := Lib.hid hz
      clear ht hz
      obtain ⟨s3, n3, c3, rfl⟩ := TZ.out.form
      obtain rfl := TZ.out.slice
      have hjl := RL.out j
      have RJ1 := Lib.hid (RJ.out j)
      have PD1 := Lib.hid (PD.out j)
      obtain ⟨KJ, hKJ⟩ : ∃ X, nms ++ List.replicate j (⟨#[]⟩ : ByteArray) = X := ⟨_, rfl⟩
      rw [hKJ] at TZ hjl RJ1 PD1 ⊢
      clear hKJ
      by_cases hlt : KJ.length < N
      · have LK := Lib.hid (show KJ.length ≤ 1048576 by omega)
        go_wp2_with (at_builtin; go_loud (refine wpList_appTx2 rfl _ _ rfl ⟨#[]⟩ KJ _ _ rfl rfl (TZ.out.keep (below1 _ _)) (blk_new _ _ rfl) LK.out (IZ.out.keep (below1 _ _)) ?_))
        intro v' w5 htx hir _
        obtain ⟨s4, n4, c4, rfl⟩ := htx.form
        obtain rfl := htx.slice
        have hl5 : (KJ ++ [(⟨#[]⟩ : ByteArray)]).length = KJ.length + 1 := by simp
        have IN := Lib.hid hir
        have TN := Lib.hid (show TxZ wA w5 (nms ++ List.replicate (j + 1) ⟨#[]⟩) _ from by rw [← RJ1.out]; exact htx)
        clear htx hir
        rw [hl5]
        rw [hl5] at TN
        go_wp2
        go_roundw
        case rel => exact ⟨j + 1, by omega, TN.out, IN.out⟩
        case measure => simp [lenS]; omega
      · have hle : KJ.length = N := by omega
        have hnlt : ¬ ((N : Int) < (N : Int)) := by omega
        obtain rfl := PD1.out (by omega)
        have T5 := Lib.hid (show TxZ wA wr (K 0) (.slice s3 KJ.length c3) from by rw [K0.out]; exact TZ.out)
        have I5 := Lib.hid IZ.out
        rw [hle]
        rw [hle] at T5
        clear TZ IZ RJ RJ1 PD PD1 hjl RL hlt hle hj
        go_wp2
        go_loopw [8, 13, 14] (fun v8 v13 v14 wr => ∃ k : Nat, k ≤ m ∧ v14 = .int .i64 k ∧ TxZ wA wr (K k) v13 ∧ IntZ wA wr (Z k) v8 ∧ ∀ j, j < k → OkT (l.getD j noI)) (fun _ _ v14 _ => m - (intOf v14).toNat)
        case atStart => exact ⟨0, Nat.zero_le _, rfl, T5.out, I5.out, fun _ h => absurd h (Nat.not_lt_zero _)⟩
        case round =>
          obtain ⟨k, hk, rfl, ht, hz, hok⟩ := hrel
          have TZ := Lib.hid ht
          have IZ := Lib.hid hz
          have OK := Lib.hid hok
          clear ht hz hok
          have KAr := Lib.hid (show wr.heap[w.heap.size]? = some (.cells #[.int .i64 kk, .slice ai m ci, .slice ap parts.length cp, .slice an names.length cn, .slice ac cls.length cc, .slice al levels.length cl, .int .i64 code, .int .i64 env] 31 (0, 0)) from (IZ.out.below.block _ HSA.out).trans KA.out)
          by_cases hlt : k < m
          · obtain ⟨ba, off, rfl, hbB, c0, c1, c2'⟩ := AI.out k wr hlt (below_then BA.out IZ.out.below)
            have c2 : wr.cell? ⟨ba, off + k * 3 + 2, none⟩ = some (.string (l.getD k noI).t) := c2'
            have IT := HIT3.out k hlt
            have LN := Lib.hid (show (Z k).length ≤ 1048576 by rw [PL.out k]; omega)
            have LK := Lib.hid (show (K k).length ≤ 1048576 by have := KL.out k; omega)
            have ATk := Lib.hid (show AllT l → OkT (l.getD k noI) from fun h => AT.out.1 h k hlt)
            have PM1 := Lib.hid (PM.out k)
            have PO1 := Lib.hid (PO.out k)
            have PN1 := Lib.hid (PN.out k)
            have KM1 := Lib.hid (KM.out k)
            have KO1 := Lib.hid (KO.out k)
            have KN1 := Lib.hid (KN.out k)
            have OKN := Lib.hid (show OkT (l.getD k noI) → ∀ j, j < k + 1 → OkT (l.getD j noI) from fun h j hj => by
              by_cases e : j = k
              · subst e; exact h
              · exact OK.out j (by omega))
            obtain ⟨x, hx⟩ : ∃ x, l.getD k noI = x := ⟨_, rfl⟩
            rw [hx] at c0 c1 c2 IT PM1 PO1 PN1 KM1 KO1 KN1 OKN ATk
            clear hx c2'
            have hcase : x = noI ∨ ∃ t : ByteArray, x = ⟨0, 1, t⟩ := by
              rcases IT with h | ⟨h, _⟩ | ⟨h, _⟩ | ⟨_, h1, h2, _⟩
              · exact .inl h
              · exact absurd h (by decide)
              · exact absurd h (by decide)
              · obtain ⟨xn, xd, xt⟩ := x
                have h1' : xn = 0 := h1
                have h2' : xd = 1 := h2
                subst h1' h2'
                exact .inr ⟨xt, rfl⟩
            obtain ⟨s8, n8, c8, rfl⟩ := TZ.out.form
            obtain rfl := TZ.out.slice
            rcases hcase with rfl | ⟨t, rfl⟩
            · have NX := Lib.hid (PM1.out rfl)
              have NK := Lib.hid (KM1.out rfl)
              have ON := Lib.hid (OKN.out (.inl rfl))
              clear PM1 PO1 PN1 KM1 KO1 KN1 OKN ATk IT
              obtain ⟨wa, hwa⟩ : ∃ W, wr.alloc (.cells #[.int .i64 0, .int .i64 0, .string ⟨#[]⟩] 66) = W := ⟨_, rfl⟩
              have BX := Lib.hid (show Below wr.heap.size wr wa from hwa ▸ below1 wr _)
              have KB := Lib.hid (show wa.heap[wr.heap.size]? = some (.cells #[.int .i64 0, .int .i64 0, .string ⟨#[]⟩] 66 (0, 0)) from hwa ▸ blk_new wr _ rfl)
              have TZ := Lib.hid (TZ.out.keep BX.out)
              have IZ := Lib.hid (IZ.out.keep BX.out)
              have EW := Lib.hid hwa
              have c0' : wr.cell? ⟨ba, off + k * 3, none⟩ = some (.int .i64 0) := c0
              have c1' : wr.cell? ⟨ba, off + k * 3 + 1, none⟩ = some (.int .i64 0) := c1
              have c2' : wr.cell? ⟨ba, off + k * 3 + 2, none⟩ = some (.string ⟨#[]⟩) := c2
              clear hwa c0 c1 c2
              have CI := Lib.hid (specFindAt ⟨#[]⟩ s8 (K k).length c8 (fun i => (K k).getD i ⟨#[]⟩) wa.heap.size wa (texts_strs TZ.out.texts) (by have := LK.out; omega))
              obtain ⟨z, hz⟩ : ∃ z, findF (⟨#[]⟩ : ByteArray) (fun i => (K k).getD i ⟨#[]⟩) (K k).length 0 = z := ⟨_, rfl⟩
              rw [hz] at CI
              clear hz
              obtain ⟨k0, k1, k2, k3, k4, k5, k6, k7⟩ := vec8 KAr.out
              go_upto_region 28 with (fail)
              rw [EW.out]
              clear k0 k1 k2 k3 k4 k5 k6 k7
              have k0 := cellOf KB.out (i := 0) rfl
              have k1 := cellOf KB.out (i := 1) rfl
              have k2 := cellOf KB.out (i := 2) rfl
              go_wp2_with fail
              refine CI.out.mono ?_
              rintro e wq ⟨rfl, rfl⟩
              go_wp2_with (at_builtin; go_loud (refine wpList_appInt2 rfl _ _ rfl 0 (Z k) _ _ rfl rfl (IZ.out.keep (below1 _ _)) (blk_new _ _ rfl) LN.out (TZ.out.keep (below1 _ _)) ?_))
              intro v' w9 hir htx
              have IN := Lib.hid (NX.out ▸ hir)
              have TN := Lib.hid (show TxZ wA w9 (K (k + 1)) _ from by rw [NK.out]; exact htx)
              clear hir htx
              go_wp2
              go_roundw
              case rel => exact ⟨k + 1, by omega, by go_num, TN.out, IN.out, ON.out⟩
              case measure => simp [intOf]; omega
            · have NN := Lib.hid (show ¬ (⟨0, 1, t⟩ : It) = noI from fun e => absurd (congrArg It.d e) (show ¬ (1 : Int) = 0 by decide))
              have PO2 := Lib.hid (show 0 ≤ findL (K k) t → Z (k + 1) = Z k ++ [findL (K k) t + 1] from fun h => PO1.out NN.out h)
              have PN2 := Lib.hid (show ¬ 0 ≤ findL (K k) t → Z (k + 1) = Z k ++ [((K k).length : Int) + 1] from fun h => PN1.out NN.out (by first | exact h | (have h' := h; simp only [Int.not_le] at h'; exact h')))
              have KN2 := Lib.hid (show ¬ 0 ≤ findL (K k) t → K (k + 1) = K k ++ [t] from fun h => KN1.out NN.out (by first | exact h | (have h' := h; simp only [Int.not_le] at h'; exact h')))
              have KO2 := Lib.hid (show 0 ≤ findL (K k) t → K (k + 1) = K k from fun h => KO1.out h)
              have hok' := Lib.hid (show OkT ⟨0, 1, t⟩ → t.size ≠ 0 from fun h => h.elim (fun e => absurd e NN.out) id)
              clear IT PM1 PO1 PN1 KM1 KN1 KO1
              obtain ⟨wa, hwa⟩ : ∃ W, wr.alloc (.cells #[.int .i64 0, .int .i64 1, .string t] 66) = W := ⟨_, rfl⟩
              have BX := Lib.hid (show Below wr.heap.size wr wa from hwa ▸ below1 wr _)
              have KB := Lib.hid (show wa.heap[wr.heap.size]? = some (.cells #[.int .i64 0, .int .i64 1, .string t] 66 (0, 0)) from hwa ▸ blk_new wr _ rfl)
              have TZ := Lib.hid (TZ.out.keep BX.out)
              have IZ := Lib.hid (IZ.out.keep BX.out)
              have EW := Lib.hid hwa
              have c0' : wr.cell? ⟨ba, off + k * 3, none⟩ = some (.int .i64 0) := c0
              have c1' : wr.cell? ⟨ba, off + k * 3 + 1, none⟩ = some (.int .i64 1) := c1
              have c2' : wr.cell? ⟨ba, off + k * 3 + 2, none⟩ = some (.string t) := c2
              clear hwa c0 c1 c2
              by_cases ht0 : t.size = 0
              · have NA := Lib.hid (show ¬ AllT l from fun h => hok'.out (ATk.out h) ht0)
                obtain ⟨y1, y2⟩ := TB.out NA.out
                have Y1 := Lib.hid (X1.out.trans y1)
                have Y2 := Lib.hid (X2.out.trans y2)
                obtain rfl := empty_of_size ht0
                have BZ := Lib.hid (below_then BA.out IZ.out.below)
                clear y1 y2 ht0 hok' ATk OKN PO2 PN2 KN2 KO2 NA
                obtain ⟨k0, k1, k2, k3, k4, k5, k6, k7⟩ := vec8 KAr.out
                go_upto_region 28 with (fail)
                rw [EW.out]
                clear k0 k1 k2 k3 k4 k5 k6 k7
                have k0 := cellOf KB.out (i := 0) rfl
                have k1 := cellOf KB.out (i := 1) rfl
                have k2 := cellOf KB.out (i := 2) rfl
                go_wp2
                go_ret2
                rw [Y2.out, Y1.out]
                exact ⟨_, rfl, IntZ.nil0 w _ BZ.out⟩
              · have hne := notEmptyB ht0
                have ON := Lib.hid (OKN.out (.inr ht0))
                clear ht0 hok' ATk OKN
                have CI := Lib.hid (show Calls Tryz.prog 47 #[.slice s8 (K k).length c8, .string t] wa (fun e w' => e = .returned (.int .i64 (findL (K k) t)) ∧ wa = w') from specFindAt t s8 (K k).length c8 (fun i => (K k).getD i ⟨#[]⟩) wa.heap.size wa (texts_strs TZ.out.texts) (by have := LK.out; omega))
                have FH := Lib.hid (findL_lt (K k) t)
                by_cases hin : 0 ≤ findL (K k) t
                · have NX := Lib.hid (PO2.out hin)
                  have NK := Lib.hid (KO2.out hin)
                  have hz1 := FH.out
                  have hlk := LK.out
                  clear PO2 PN2 KN2 KO2 FH
                  obtain ⟨z, hz⟩ : ∃ z, findL (K k) t = z := ⟨_, rfl⟩
                  rw [hz] at CI NX hin hz1
                  clear hz
                  have hzn : ¬ z < 0 := by omega
                  obtain ⟨k0, k1, k2, k3, k4, k5, k6, k7⟩ := vec8 KAr.out
                  go_upto_region 28 with (fail)
                  rw [EW.out]
                  clear k0 k1 k2 k3 k4 k5 k6 k7
                  have k0 := cellOf KB.out (i := 0) rfl
                  have k1 := cellOf KB.out (i := 1) rfl
                  have k2 := cellOf KB.out (i := 2) rfl
                  go_wp2_with fail
                  refine CI.out.mono ?_
                  rintro e wq ⟨rfl, rfl⟩
                  go_wp2_with (at_builtin; go_loud (refine wpList_appInt2 rfl _ _ rfl (z + 1) (Z k) _ _ rfl rfl (IZ.out.keep (below1 _ _)) (blk_new _ _ rfl) LN.out (TZ.out.keep (below1 _ _)) ?_))
                  intro v' w9 hir htx
                  have IN := Lib.hid (NX.out ▸ hir)
                  have TN := Lib.hid (show TxZ wA w9 (K (k + 1)) _ from by rw [NK.out]; exact htx)
                  clear hir htx
                  go_wp2
                  go_roundw
                  case rel => exact ⟨k + 1, by omega, by go_num, TN.out, IN.out, ON.out⟩
                  case measure => simp [intOf]; omega
                · have NX := Lib.hid (PN2.out hin)
                  have NK := Lib.hid (KN2.out hin)
                  have hlk := LK.out
                  clear PO2 PN2 KN2 KO2 FH
                  obtain ⟨z, hz⟩ : ∃ z, findL (K k) t = z := ⟨_, rfl⟩
                  rw [hz] at CI hin
                  clear hz
                  have hzn : z < 0 := by omega
                  obtain ⟨k0, k1, k2, k3, k4, k5, k6, k7⟩ := vec8 KAr.out
                  go_upto_region 28 with (fail)
                  rw [EW.out]
                  clear k0 k1 k2 k3 k4 k5 k6 k7
                  have k0 := cellOf KB.out (i := 0) rfl
                  have k1 := cellOf KB.out (i := 1) rfl
                  have k2 := cellOf KB.out (i := 2) rfl
                  go_wp2_with fail
                  refine CI.out.mono ?_
                  rintro e wq ⟨rfl, rfl⟩
                  go_wp2_with (at_builtin; go_loud (refine wpList_appTx2 rfl _ _ rfl t (K k) _ _ rfl rfl (TZ.out.keep (below1 _ _)) (blk_new _ _ rfl) LK.out (IZ.out.keep (below1 _ _)) ?_))
                  intro v' w8 htx hir _
                  have TN := Lib.hid htx
                  have IZ3 := Lib.hid hir
                  clear htx hir
                  go_wp2_with (at_builtin; go_loud (refine wpList_appInt2 rfl _ _ rfl (((K k).length : Int) + 1) (Z k) _ _ rfl rfl (IZ3.out.keep (below1 _ _)) (blk_new _ _ rfl) LN.out (TN.out.keep (below1 _ _)) ?_))
                  intro v' w9 hir htx
                  have IN := Lib.hid (NX.out ▸ hir)
                  have TN := Lib.hid (show TxZ wA w9 (K (k + 1)) _ from by rw [NK.out]; exact htx)
                  clear hir htx
                  go_wp2
                  go_roundw
                  case rel => exact ⟨k + 1, by omega, by go_num, TN.out, IN.out, ON.out⟩
                  case measure => simp [intOf]; omega
          · obtain rfl : k = m := by omega
            have AA := Lib.hid (AT.out.2 OK.out)
            obtain ⟨y1, y2⟩ := TO.out AA.out
            have Y1 := Lib.hid (X1.out.trans y1)
            have Y2 := Lib.hid (X2.out.trans y2)
            clear y1 y2 TO TB
            obtain ⟨k0, k1, k2, k3, k4, k5, k6, k7⟩ := vec8 KAr.out
            go_wp2
            go_ret2
            exact ⟨_, by rw [Y2.out]; rfl, by rw [Y1.out]; exact IZ.out.wide BA.out⟩
  · go_wp2_with fail
    refine (CL.out _).mono ?_
    rintro e wq ⟨rfl, rfl⟩
    go_wp2_with (at_builtin; go_loud (rw [EW.out]; refine wpList_copyTz (w0 := w2) rfl _ _ rfl _ rfl (.inr ⟨w2.heap.size, Nat.le_refl _, rfl, KS.out⟩) B23.out na nc nms lo2 hi2 rfl HT3.out ln2 ?_))
    intro v13 w4 htz
    have I4 := Lib.hid (show IntZ wA w4 (Z 0) (.slice (some ⟨w.heap.size + 1, 0, none⟩) 0 0) from P0.out ▸ ST.out.keep htz.below)
    have T4 := Lib.hid (show TxZ wA w4 (nms ++ List.replicate 0 ⟨#[]⟩) v13 from by rw [List.replicate_zero, List.append_nil]; exact htz.wideT ST.out.below)
    clear htz k0 k1 k2 k3 k4 k5 k6 k7 EW KS B23 HT3
    obtain ⟨nn, hnn⟩ : ∃ x, nms.length = x := ⟨_, rfl⟩
    rw [hnn] at hnl RL PD
    clear hnn
    go_wp2
    go_loopw [13] (fun v13 wr => ∃ j : Nat, nn + j ≤ N ∧ TxZ wA wr (nms ++ List.replicate j ⟨#[]⟩) v13 ∧ IntZ wA wr (Z 0) (.slice (some ⟨w.heap.size + 1, 0, none⟩) 0 0)) (fun v13 _ => N - lenS v13)
    case atStart => exact ⟨0, hnl, T4.out, I4.out⟩
    case round =>
      obtain ⟨j, hj, ht, hz⟩ := hrel
      have TZ := Lib.hid ht
      have IZ := Lib.hid hz
      clear ht hz
      obtain ⟨s3, n3, c3, rfl⟩ := TZ.out.form
      obtain rfl := TZ.out.slice
      have hjl := RL.out j
      have RJ1 := Lib.hid (RJ.out j)
      have PD1 := Lib.hid (PD.out j)
      obtain ⟨KJ, hKJ⟩ : ∃ X, nms ++ List.replicate j (⟨#[]⟩ : ByteArray) = X := ⟨_, rfl⟩
      rw [hKJ] at TZ hjl RJ1 PD1 ⊢
      clear hKJ
      by_cases hlt : KJ.length < N
      · have LK := Lib.hid (show KJ.length ≤ 1048576 by omega)
        go_wp2_with (at_builtin; go_loud (refine wpList_appTx2 rfl _ _ rfl ⟨#[]⟩ KJ _ _ rfl rfl (TZ.out.keep (below1 _ _)) (blk_new _ _ rfl) LK.out (IZ.out.keep (below1 _ _)) ?_))
        intro v' w5 htx hir _
        obtain ⟨s4, n4, c4, rfl⟩ := htx.form
        obtain rfl := htx.slice
        have hl5 : (KJ ++ [(⟨#[]⟩ : ByteArray)]).length = KJ.length + 1 := by simp
        have IN := Lib.hid hir
        have TN := Lib.hid (show TxZ wA w5 (nms ++ List.replicate (j + 1) ⟨#[]⟩) _ from by rw [← RJ1.out]; exact htx)
        clear htx hir
        rw [hl5]
        rw [hl5] at TN
        go_wp2
        go_roundw
        case rel => exact ⟨j + 1, by omega, TN.out, IN.out⟩
        case measure => simp [lenS]; omega
      · have hle : KJ.length = N := by omega
        have hnlt : ¬ ((N : Int) < (N : Int)) := by omega
        obtain rfl := PD1.out (by omega)
        have T5 := Lib.hid (show TxZ wA wr (K 0) (.slice s3 KJ.length c3) from by rw [K0.out]; exact TZ.out)
        have I5 := Lib.hid IZ.out
        rw [hle]
        rw [hle] at T5
        clear TZ IZ RJ RJ1 PD PD1 hjl RL hlt hle hj
        go_wp2
        go_loopw [8, 13, 14] (fun v8 v13 v14 wr => ∃ k : Nat, k ≤ m ∧ v14 = .int .i64 k ∧ TxZ wA wr (K k) v13 ∧ IntZ wA wr (Z k) v8 ∧ ∀ j, j < k → OkT (l.getD j noI)) (fun _ _ v14 _ => m - (intOf v14).toNat)
        case atStart => exact ⟨0, Nat.zero_le _, rfl, T5.out, I5.out, fun _ h => absurd h (Nat.not_lt_zero _)⟩
        case round =>
          obtain ⟨k, hk, rfl, ht, hz, hok⟩ := hrel
          have TZ := Lib.hid ht
          have IZ := Lib.hid hz
          have OK := Lib.hid hok
          clear ht hz hok
          have KAr := Lib.hid (show wr.heap[w.heap.size]? = some (.cells #[.int .i64 kk, .slice ai m ci, .slice ap parts.length cp, .slice an names.length cn, .slice ac cls.length cc, .slice al levels.length cl, .int .i64 code, .int .i64 env] 31 (0, 0)) from (IZ.out.below.block _ HSA.out).trans KA.out)
          by_cases hlt : k < m
          · obtain ⟨ba, off, rfl, hbB, c0, c1, c2'⟩ := AI.out k wr hlt (below_then BA.out IZ.out.below)
            have c2 : wr.cell? ⟨ba, off + k * 3 + 2, none⟩ = some (.string (l.getD k noI).t) := c2'
            have IT := HIT3.out k hlt
            have LN := Lib.hid (show (Z k).length ≤ 1048576 by rw [PL.out k]; omega)
            have LK := Lib.hid (show (K k).length ≤ 1048576 by have := KL.out k; omega)
            have ATk := Lib.hid (show AllT l → OkT (l.getD k noI) from fun h => AT.out.1 h k hlt)
            have PM1 := Lib.hid (PM.out k)
            have PO1 := Lib.hid (PO.out k)
            have PN1 := Lib.hid (PN.out k)
            have KM1 := Lib.hid (KM.out k)
            have KO1 := Lib.hid (KO.out k)
            have KN1 := Lib.hid (KN.out k)
            have OKN := Lib.hid (show OkT (l.getD k noI) → ∀ j, j < k + 1 → OkT (l.getD j noI) from fun h j hj => by
              by_cases e : j = k
              · subst e; exact h
              · exact OK.out j (by omega))
            obtain ⟨x, hx⟩ : ∃ x, l.getD k noI = x := ⟨_, rfl⟩
            rw [hx] at c0 c1 c2 IT PM1 PO1 PN1 KM1 KO1 KN1 OKN ATk
            clear hx c2'
            have hcase : x = noI ∨ ∃ t : ByteArray, x = ⟨0, 1, t⟩ := by
              rcases IT with h | ⟨h, _⟩ | ⟨h, _⟩ | ⟨_, h1, h2, _⟩
              · exact .inl h
              · exact absurd h (by decide)
              · exact absurd h (by decide)
              · obtain ⟨xn, xd, xt⟩ := x
                have h1' : xn = 0 := h1
                have h2' : xd = 1 := h2
                subst h1' h2'
                exact .inr ⟨xt, rfl⟩
            obtain ⟨s8, n8, c8, rfl⟩ := TZ.out.form
            obtain rfl := TZ.out.slice
            rcases hcase with rfl | ⟨t, rfl⟩
            · have NX := Lib.hid (PM1.out rfl)
              have NK := Lib.hid (KM1.out rfl)
              have ON := Lib.hid (OKN.out (.inl rfl))
              clear PM1 PO1 PN1 KM1 KO1 KN1 OKN ATk IT
              obtain ⟨wa, hwa⟩ : ∃ W, wr.alloc (.cells #[.int .i64 0, .int .i64 0, .string ⟨#[]⟩] 66) = W := ⟨_, rfl⟩
              have BX := Lib.hid (show Below wr.heap.size wr wa from hwa ▸ below1 wr _)
              have KB := Lib.hid (show wa.heap[wr.heap.size]? = some (.cells #[.int .i64 0, .int .i64 0, .string ⟨#[]⟩] 66 (0, 0)) from hwa ▸ blk_new wr _ rfl)
              have TZ := Lib.hid (TZ.out.keep BX.out)
              have IZ := Lib.hid (IZ.out.keep BX.out)
              have EW := Lib.hid hwa
              have c0' : wr.cell? ⟨ba, off + k * 3, none⟩ = some (.int .i64 0) := c0
              have c1' : wr.cell? ⟨ba, off + k * 3 + 1, none⟩ = some (.int .i64 0) := c1
              have c2' : wr.cell? ⟨ba, off + k * 3 + 2, none⟩ = some (.string ⟨#[]⟩) := c2
              clear hwa c0 c1 c2
              have CI := Lib.hid (specFindAt ⟨#[]⟩ s8 (K k).length c8 (fun i => (K k).getD i ⟨#[]⟩) wa.heap.size wa (texts_strs TZ.out.texts) (by have := LK.out; omega))
              obtain ⟨z, hz⟩ : ∃ z, findF (⟨#[]⟩ : ByteArray) (fun i => (K k).getD i ⟨#[]⟩) (K k).length 0 = z := ⟨_, rfl⟩
              rw [hz] at CI
              clear hz
              obtain ⟨k0, k1, k2, k3, k4, k5, k6, k7⟩ := vec8 KAr.out
              go_upto_region 28 with (fail)
              rw [EW.out]
              clear k0 k1 k2 k3 k4 k5 k6 k7
              have k0 := cellOf KB.out (i := 0) rfl
              have k1 := cellOf KB.out (i := 1) rfl
              have k2 := cellOf KB.out (i := 2) rfl
              go_wp2_with fail
              refine CI.out.mono ?_
              rintro e wq ⟨rfl, rfl⟩
              go_wp2_with (at_builtin; go_loud (refine wpList_appInt2 rfl _ _ rfl 0 (Z k) _ _ rfl rfl (IZ.out.keep (below1 _ _)) (blk_new _ _ rfl) LN.out (TZ.out.keep (below1 _ _)) ?_))
              intro v' w9 hir htx
              have IN := Lib.hid (NX.out ▸ hir)
              have TN := Lib.hid (show TxZ wA w9 (K (k + 1)) _ from by rw [NK.out]; exact htx)
              clear hir htx
              go_wp2
              go_roundw
              case rel => exact ⟨k + 1, by omega, by go_num, TN.out, IN.out, ON.out⟩
              case measure => simp [intOf]; omega
            · have NN := Lib.hid (show ¬ (⟨0, 1, t⟩ : It) = noI from fun e => absurd (congrArg It.d e) (show ¬ (1 : Int) = 0 by decide))
              have PO2 := Lib.hid (show 0 ≤ findL (K k) t → Z (k + 1) = Z k ++ [findL (K k) t + 1] from fun h => PO1.out NN.out h)
              have PN2 := Lib.hid (show ¬ 0 ≤ findL (K k) t → Z (k + 1) = Z k ++ [((K k).length : Int) + 1] from fun h => PN1.out NN.out (by first | exact h | (have h' := h; simp only [Int.not_le] at h'; exact h')))
              have KN2 := Lib.hid (show ¬ 0 ≤ findL (K k) t → K (k + 1) = K k ++ [t] from fun h => KN1.out NN.out (by first | exact h | (have h' := h; simp only [Int.not_le] at h'; exact h')))
              have KO2 := Lib.hid (show 0 ≤ findL (K k) t → K (k + 1) = K k from fun h => KO1.out h)
              have hok' := Lib.hid (show OkT ⟨0, 1, t⟩ → t.size ≠ 0 from fun h => h.elim (fun e => absurd e NN.out) id)
              clear IT PM1 PO1 PN1 KM1 KN1 KO1
              obtain ⟨wa, hwa⟩ : ∃ W, wr.alloc (.cells #[.int .i64 0, .int .i64 1, .string t] 66) = W := ⟨_, rfl⟩
              have BX := Lib.hid (show Below wr.heap.size wr wa from hwa ▸ below1 wr _)
              have KB := Lib.hid (show wa.heap[wr.heap.size]? = some (.cells #[.int .i64 0, .int .i64 1, .string t] 66 (0, 0)) from hwa ▸ blk_new wr _ rfl)
              have TZ := Lib.hid (TZ.out.keep BX.out)
              have IZ := Lib.hid (IZ.out.keep BX.out)
              have EW := Lib.hid hwa
              have c0' : wr.cell? ⟨ba, off + k * 3, none⟩ = some (.int .i64 0) := c0
              have c1' : wr.cell? ⟨ba, off + k * 3 + 1, none⟩ = some (.int .i64 1) := c1
              have c2' : wr.cell? ⟨ba, off + k * 3 + 2, none⟩ = some (.string t) := c2
              clear hwa c0 c1 c2
              by_cases ht0 : t.size = 0
              · have NA := Lib.hid (show ¬ AllT l from fun h => hok'.out (ATk.out h) ht0)
                obtain ⟨y1, y2⟩ := TB.out NA.out
                have Y1 := Lib.hid (X1.out.trans y1)
                have Y2 := Lib.hid (X2.out.trans y2)
                obtain rfl := empty_of_size ht0
                have BZ := Lib.hid (below_then BA.out IZ.out.below)
                clear y1 y2 ht0 hok' ATk OKN PO2 PN2 KN2 KO2 NA
                obtain ⟨k0, k1, k2, k3, k4, k5, k6, k7⟩ := vec8 KAr.out
                go_upto_region 28 with (fail)
                rw [EW.out]
                clear k0 k1 k2 k3 k4 k5 k6 k7
                have k0 := cellOf KB.out (i := 0) rfl
                have k1 := cellOf KB.out (i := 1) rfl
                have k2 := cellOf KB.out (i := 2) rfl
                go_wp2
                go_ret2
                rw [Y2.out, Y1.out]
                exact ⟨_, rfl, IntZ.nil0 w _ BZ.out⟩
              · have hne := notEmptyB ht0
                have ON := Lib.hid (OKN.out (.inr ht0))
                clear ht0 hok' ATk OKN
                have CI := Lib.hid (show Calls Tryz.prog 47 #[.slice s8 (K k).length c8, .string t] wa (fun e w' => e = .returned (.int .i64 (findL (K k) t)) ∧ wa = w') from specFindAt t s8 (K k).length c8 (fun i => (K k).getD i ⟨#[]⟩) wa.heap.size wa (texts_strs TZ.out.texts) (by have := LK.out; omega))
                have FH := Lib.hid (findL_lt (K k) t)
                by_cases hin : 0 ≤ findL (K k) t
                · have NX := Lib.hid (PO2.out hin)
                  have NK := Lib.hid (KO2.out hin)
                  have hz1 := FH.out
                  have hlk := LK.out
                  clear PO2 PN2 KN2 KO2 FH
                  obtain ⟨z, hz⟩ : ∃ z, findL (K k) t = z := ⟨_, rfl⟩
                  rw [hz] at CI NX hin hz1
                  clear hz
                  have hzn : ¬ z < 0 := by omega
                  obtain ⟨k0, k1, k2, k3, k4, k5, k6, k7⟩ := vec8 KAr.out
                  go_upto_region 28 with (fail)
                  rw [EW.out]
                  clear k0 k1 k2 k3 k4 k5 k6 k7
                  have k0 := cellOf KB.out (i := 0) rfl
                  have k1 := cellOf KB.out (i := 1) rfl
                  have k2 := cellOf KB.out (i := 2) rfl
                  go_wp2_with fail
                  refine CI.out.mono ?_
                  rintro e wq ⟨rfl, rfl⟩
                  go_wp2_with (at_builtin; go_loud (refine wpList_appInt2 rfl _ _ rfl (z + 1) (Z k) _ _ rfl rfl (IZ.out.keep (below1 _ _)) (blk_new _ _ rfl) LN.out (TZ.out.keep (below1 _ _)) ?_))
                  intro v' w9 hir htx
                  have IN := Lib.hid (NX.out ▸ hir)
                  have TN := Lib.hid (show TxZ wA w9 (K (k + 1)) _ from by rw [NK.out]; exact htx)
                  clear hir htx
                  go_wp2
                  go_roundw
                  case rel => exact ⟨k + 1, by omega, by go_num, TN.out, IN.out, ON.out⟩
                  case measure => simp [intOf]; omega
                · have NX := Lib.hid (PN2.out hin)
                  have NK := Lib.hid (KN2.out hin)
                  have hlk := LK.out
                  clear PO2 PN2 KN2 KO2 FH
                  obtain ⟨z, hz⟩ : ∃ z, findL (K k) t = z := ⟨_, rfl⟩
                  rw [hz] at CI hin
                  clear hz
                  have hzn : z < 0 := by omega
                  obtain ⟨k0, k1, k2, k3, k4, k5, k6, k7⟩ := vec8 KAr.out
                  go_upto_region 28 with (fail)
                  rw [EW.out]
                  clear k0 k1 k2 k3 k4 k5 k6 k7
                  have k0 := cellOf KB.out (i := 0) rfl
                  have k1 := cellOf KB.out (i := 1) rfl
                  have k2 := cellOf KB.out (i := 2) rfl
                  go_wp2_with fail
                  refine CI.out.mono ?_
                  rintro e wq ⟨rfl, rfl⟩
                  go_wp2_with (at_builtin; go_loud (refine wpList_appTx2 rfl _ _ rfl t (K k) _ _ rfl rfl (TZ.out.keep (below1 _ _)) (blk_new _ _ rfl) LK.out (IZ.out.keep (below1 _ _)) ?_))
                  intro v' w8 htx hir _
                  have TN := Lib.hid htx
                  have IZ3 := Lib.hid hir
                  clear htx hir
                  go_wp2_with (at_builtin; go_loud (refine wpList_appInt2 rfl _ _ rfl (((K k).length : Int) + 1) (Z k) _ _ rfl rfl (IZ3.out.keep (below1 _ _)) (blk_new _ _ rfl) LN.out (TN.out.keep (below1 _ _)) ?_))
                  intro v' w9 hir htx
                  have IN := Lib.hid (NX.out ▸ hir)
                  have TN := Lib.hid (show TxZ wA w9 (K (k + 1)) _ from by rw [NK.out]; exact htx)
                  clear hir htx
                  go_wp2
                  go_roundw
                  case rel => exact ⟨k + 1, by omega, by go_num, TN.out, IN.out, ON.out⟩
                  case measure => simp [intOf]; omega
          · obtain rfl : k = m := by omega
            have AA := Lib.hid (AT.out.2 OK.out)
            obtain ⟨y1, y2⟩ := TO.out AA.out
            have Y1 := Lib.hid (X1.out.trans y1)
            have Y2 := Lib.hid (X2.out.trans y2)
            clear y1 y2 TO TB
            obtain ⟨k0, k1, k2, k3, k4, k5, k6, k7⟩ := vec8 KAr.out
            go_wp2
            go_ret2
            exact ⟨_, by rw [Y2.out]; rfl, by rw [Y1.out]; exact IZ.out.wide BA.out⟩
end Go.Proofs.YtpekdmocgjjhnaaGreat

/- ResolvePositions of the reference. -/
namespace Go.Proofs.YtpekdmocgjjhnaaGreat
open Go.RowKit
set_option maxRecDepth 100000
set_option linter.unusedVariables false

theorem specResolve (d : Nat) (v : Vec) (val : Value) (n : Int) (nms : List ByteArray) (na : Option Addr) (nc lo hi lo2 hi2 : Nat) (w : World) (hv : VecAt lo hi w d v val) (hhi : hi ≤ w.heap.size) (hsm : Small d v) (hT : TextsAt lo2 hi2 w na nms) (hh2 : hi2 ≤ w.heap.size) (ln2 : nms.length ≤ 1048576) :
    Calls Tryz.prog 19 #[.int .i64 n, .slice na nms.length nc, val] w (ResZ (rsZ n nms v) (rsS n nms v) w) := by
  by_cases h : ValidV v ∧ NmOk n nms ∧ (kindV v = 1 ∨ kindV v = 3 ∨ kindV v = 0)
  · obtain ⟨h1, h2, h3 | h3⟩ := h
    · exact specResolveL d v val n nms na nc lo hi lo2 hi2 w hv hhi hsm hT hh2 ln2 h1 h2 h3
    · exact specResolveT d v val n nms na nc lo hi lo2 hi2 w hv hhi hsm hT hh2 ln2 h1 h2 h3
  · exact specResolveA d v val n nms na nc lo hi lo2 hi2 w hv hhi hsm hT hh2 ln2 h
end Go.Proofs.YtpekdmocgjjhnaaGreat

/- Parts appended to a vector under way; all parts of a valid vector, however deep, are vectors. -/
namespace Go.Proofs.YtpekdmocgjjhnaaGreat
open Go.RowKit
set_option maxRecDepth 100000
set_option linter.unusedVariables false

theorem isV_up : ∀ (n : Nat) (v : Vec), IsV n v → IsV (n + 1) v
  | 0, v, h => ⟨h.1, fun i hi => by have := h.2; omega⟩
  | n + 1, v, h => ⟨h.1, fun i hi => isV_up n _ (h.2 i hi)⟩
theorem isV_three {n : Nat} {v : Vec} (hn : n ≤ 3) (h : IsV n v) : IsV 3 v := by
  rcases (show n = 0 ∨ n = 1 ∨ n = 2 ∨ n = 3 by omega) with rfl | rfl | rfl | rfl
  · exact isV_up _ _ (isV_up _ _ (isV_up _ _ h))
  · exact isV_up _ _ (isV_up _ _ h)
  · exact isV_up _ _ h
  · exact h
theorem allIs_of : ∀ (d n : Nat) (v : Vec), n ≤ 3 → IsV n v → AllIs d v
  | 0, _, _, _, _ => trivial
  | d + 1, 0, v, _, h => fun i hi => by have := h.2; omega
  | d + 1, n + 1, v, hn, h => fun i hi => ⟨isV_three (by omega) (h.2 i hi), allIs_of d n _ (by omega) (h.2 i hi)⟩
theorem part_is {v : Vec} (h : IsV 3 v) (d i : Nat) (hi : i < (partsV v).length) : AllIs d ((partsV v).getD i noV) ∧ (partsV ((partsV v).getD i noV)).length ≤ 41 ∧ IsV 2 ((partsV v).getD i noV) := by
  have h2 := h.2 i hi
  exact ⟨allIs_of d 2 _ (by omega) h2, by have := h2.flat.parts; omega, h2⟩
theorem RowX.snocX {lo : Nat} {w w' : World} {d : Nat} {parts : List Vec} {v' : Value} {F : List Nat} {p : Vec} {c0 c1 c2 c3 c4 c5 c6 c7 : Value} {vals : List Value} {Fs : List (List Nat)} (h1 : vals.length = parts.length) (h2 : Fs.length = parts.length)
    (h4 : ∀ i, i < parts.length → OwnVec w d (parts.getD i noV) (vals.getD i undef) (Fs.getD i [])) (ho : OwnVec w' d p (.agg #[c0, c1, c2, c3, c4, c5, c6, c7]) F)
    (hr : w'.ownsRow lo 31 8 v' (parts.length + 1) (vals.flatMap cl8 ++ [c0, c1, c2, c3, c4, c5, c6, c7])) (hX : ∀ g ∈ Fs.flatten, w'.heap[g]? = w.heap[g]?) : RowX lo w' d (parts ++ [p]) v' (Fs.flatten ++ F) := by
  have hl : (parts ++ [p]).length = parts.length + 1 := by simp
  refine ⟨vals ++ [Value.agg #[c0, c1, c2, c3, c4, c5, c6, c7]], Fs ++ [F], by simp [h1], by simp [h2], ?_, fun i hi => ?_, by simp⟩
  · rw [hl, List.flatMap_append]
    exact hr
  · rw [hl] at hi
    by_cases e : i = parts.length
    · subst e
      have e0 : (parts ++ [p]).getD parts.length noV = p := by rw [List.getD_eq_getElem?_getD, List.getElem?_append_right (by omega)]; simp
      have e1 : (vals ++ [Value.agg #[c0, c1, c2, c3, c4, c5, c6, c7]]).getD parts.length undef = .agg #[c0, c1, c2, c3, c4, c5, c6, c7] := by rw [List.getD_eq_getElem?_getD, List.getElem?_append_right (by omega)]; simp [h1]
      have e2 : (Fs ++ [F]).getD parts.length [] = F := by rw [List.getD_eq_getElem?_getD, List.getElem?_append_right (by omega)]; simp [h2]
      rw [e0, e1, e2]
      exact ho
    · have e0 : (parts ++ [p]).getD i noV = parts.getD i noV := by rw [List.getD_eq_getElem?_getD, List.getD_eq_getElem?_getD, List.getElem?_append_left (by omega)]
      have e1 : (vals ++ [Value.agg #[c0, c1, c2, c3, c4, c5, c6, c7]]).getD i undef = vals.getD i undef := by rw [List.getD_eq_getElem?_getD, List.getD_eq_getElem?_getD, List.getElem?_append_left (by omega)]
      have e2 : (Fs ++ [F]).getD i [] = Fs.getD i [] := by rw [List.getD_eq_getElem?_getD, List.getD_eq_getElem?_getD, List.getElem?_append_left (by omega)]
      rw [e0, e1, e2]
      exact (h4 i (by omega)).kept _ _ _ _ (fun b hb => hX b (mem_flat (by omega) hb))
theorem Und.snocP {lo : Nat} {w0 w1 w2 : World} {d : Nat} {items : List It} {parts : List Vec} {names cls lev : List ByteArray} {vi vp vn vc vl v' : Value} {X : List Nat} {p : Vec} {c0 c1 c2 c3 c4 c5 c6 c7 : Value} {vals : List Value} {Fs : List (List Nat)} (h : Und lo w0 d items parts names cls lev vi vp vn vc vl X) (hb : Below w0.heap.size w0 w1)
    (h1 : vals.length = parts.length) (h2 : Fs.length = parts.length) (h4 : ∀ i, i < parts.length → OwnVec w1 d (parts.getD i noV) (vals.getD i undef) (Fs.getD i [])) (h5 : Fs.flatten = X) (ho : Own d p (.agg #[c0, c1, c2, c3, c4, c5, c6, c7]) w0.heap.size w1.heap.size w1)
    (hr : w2.ownsRow lo 31 8 v' (parts.length + 1) (vals.flatMap cl8 ++ [c0, c1, c2, c3, c4, c5, c6, c7])) (hm : Moved w1 vp v') (hG : ∀ g, lo ≤ g → g < w1.heap.size → vp.ownBlock ≠ some g → w2.heap[g]? = w1.heap[g]?) (hs : w1.heap.size ≤ w2.heap.size) (hlo : lo ≤ w0.heap.size) :
    ∃ X', Und lo w2 d items (parts ++ [p]) names cls lev vi v' vn vc vl X' := by
  subst h5
  obtain ⟨F, ho1, ho2, ho3⟩ := ho.out
  have hpb := h.pb
  have h01 := hb.size
  have hF : ∀ g ∈ F, vp.ownBlock ≠ some g := fun g hg e => by have := hpb.1 g e; have := ho3 g hg; omega
  have hXk : ∀ g ∈ Fs.flatten, w2.heap[g]? = w1.heap[g]? := fun g hg => by
    have hr := h.rg g hg
    exact hG g hr.1 (by omega) (fun e => h.off.2.1 g e hg)
  have hR := RowX.snocX h1 h2 h4 (ho1.kept _ _ _ _ (fun g hg => by have := ho3 g hg; exact hG g (by omega) (by omega) (hF g hg))) hr hXk
  have hm0 : Moved w0 vp v' := by
    rcases hm with e | ⟨g, e, hg⟩
    · exact .inl e
    · exact .inr ⟨g, e, by omega⟩
  refine ⟨Fs.flatten ++ F, h.setP hR hm0 (fun g hg hlt hne => (hG g hg (by omega) hne).trans (hb.block g hlt)) (by omega) ?_ (fun g hg => ?_) hlo ?_⟩
  · rw [List.nodup_append]
    refine ⟨h.nd, ho2, fun a ha b hb' e => ?_⟩
    have := (h.rg a ha).2
    have := (ho3 b hb').1
    omega
  · rcases List.mem_append.1 hg with h' | h'
    · have := (h.rg g h').2; exact ⟨.inl h', by omega⟩
    · have := ho3 g h'; exact ⟨.inr this.1, by omega⟩
  · intro g hg hx
    rcases hm with e | ⟨g', e, hge⟩
    · rcases List.mem_append.1 hx with h' | h'
      · exact h.off.2.1 g (e ▸ hg) h'
      · exact hF g h' (e ▸ hg)
    · rw [e] at hg
      obtain rfl := Option.some.inj hg
      rcases List.mem_append.1 hx with h' | h'
      · have := (h.rg _ h').2; omega
      · have := (ho3 _ h').2; omega
section
variable {ops : Array Oper} {Q : Exit → Act → World → Prop} {S : World → Prop} {w0 : World} {L : List (Nat × TypeId × Array Value)}
variable {r : List (Nat × Bool)} {a : Act} {e : List (Nat × Value)} {w : World} {i d : Nat} {g : Option (Nat × Bool)} {v : Value}
theorem run_idx8 {x y : Operand} {b off n c k : Nat} (ho : opAt ops i = some (some d, .indexAddr 29 x y, g)) (hd : Nat.blt d a.tmps.size = true) (hw : wantE ops a e g = some true)
    (hx : lookO a e x = .slice (some ⟨b, off, none⟩) n c) (hy : lookO a e y = .int .i64 (k : Int)) (hk : k < n)
    (h : RunE Tryz.prog ops Q S r a ((d, .pointer (some ⟨b, off + k * 8, none⟩)) :: e) w) : RunE Tryz.prog ops Q S ((i, true) :: r) a e w :=
  run_yield ho hd hw (fun o w' h1 _ => by
    unfold execOp; rw [h1]; simp only [hx, hy]
    refine run_v ?_
    obtain ⟨ie, hie, _, hsz, _⟩ := info_parts infoVec8
    have he : Tryz.prog.elem 29 = 31 := by kernel_rfl
    rw [← he] at hie
    rw [run_indexAt_slice (h := Tryz.underlying29), if_pos ⟨Int.natCast_nonneg k, by omega⟩]
    simp [sizeOf, typeInfo, hie, hsz, addr_add]) h
/-- A vector that lay there at the outset, among others. -/
theorem runC_oldV {x : Operand} {b j : Nat} {c0 c1 c2 c3 c4 c5 c6 c7 : Value} (ho : opAt ops i = some (some d, .load 31 x, g)) (hd : Nat.blt d a.tmps.size = true) (hw : wantE ops a e g = some true)
    (hx : lookO a e x = .pointer (some ⟨b, j, none⟩)) (hb : b < w0.heap.size) (h0 : w0.cell? ⟨b, j, none⟩ = some c0) (h1 : w0.cell? ⟨b, j + 1, none⟩ = some c1) (h2 : w0.cell? ⟨b, j + 2, none⟩ = some c2) (h3 : w0.cell? ⟨b, j + 3, none⟩ = some c3) (h4 : w0.cell? ⟨b, j + 4, none⟩ = some c4) (h5 : w0.cell? ⟨b, j + 5, none⟩ = some c5) (h6 : w0.cell? ⟨b, j + 6, none⟩ = some c6) (h7 : w0.cell? ⟨b, j + 7, none⟩ = some c7)
    (h : RunE Tryz.prog ops Q (fun w' => HeldC w0 w' L) r a ((d, .agg #[c0, c1, c2, c3, c4, c5, c6, c7]) :: e) w) : RunE Tryz.prog ops Q (fun w' => HeldC w0 w' L) ((i, true) :: r) a e w :=
  run_load ho hd hw hx (fun w' hS => run_loadVar_mid w' b j 31 [c0, c1, c2, c3, c4, c5, c6, c7] _ (fun k v hv => by
    have hlt : k < 8 := by have := (List.getElem?_eq_some_iff.1 hv).1; simpa using this
    rw [hS.1.cell (p := ⟨b, j + k, none⟩) hb, ← hv]
    rcases (show k = 0 ∨ k = 1 ∨ k = 2 ∨ k = 3 ∨ k = 4 ∨ k = 5 ∨ k = 6 ∨ k = 7 by omega) with rfl | rfl | rfl | rfl | rfl | rfl | rfl | rfl
    · exact h0
    · exact h1
    · exact h2
    · exact h3
    · exact h4
    · exact h5
    · exact h6
    · exact h7) Tryz.underlying31 rfl infoVec) h
end
end Go.Proofs.YtpekdmocgjjhnaaGreat

/- The reference's last look at a result: l4Fit. -/
namespace Go.Proofs.YtpekdmocgjjhnaaGreat
set_option maxRecDepth 100000
open Go.RowKit
set_option linter.unusedVariables false
end Go.Proofs.YtpekdmocgjjhnaaGreat

/- LogicOf as data. -/
namespace Go.Proofs.YtpekdmocgjjhnaaGreat
open Go.RowKit
set_option maxRecDepth 100000
set_option linter.unusedVariables false

def andB : ByteArray := ⟨#[38]⟩
def orB : ByteArray := ⟨#[124]⟩
/-- "unknown operator" -/
def unkB : ByteArray := ⟨#[117, 110, 107, 110, 111, 119, 110, 32, 111, 112, 101, 114, 97, 116, 111, 114]⟩
/-- "lengths do not match" -/
def lenB : ByteArray := ⟨#[108, 101, 110, 103, 116, 104, 115, 32, 100, 111, 32, 110, 111, 116, 32, 109, 97, 116, 99, 104]⟩
noncomputable def connL (op : ByteArray) (x y : Int) : Int := match bB (op = andB) with | true => aL x y | false => oL x y
def itL (v : Vec) : Nat := (itemsV v).length
def lgcN (a b : Vec) : Int := sizeL (itL a) (itL b)
noncomputable def lgcF (op : ByteArray) (a b : Vec) (i : Nat) : Int := connL op (truthI ((itemsV a).getD (i % itL a) noI)) (truthI ((itemsV b).getD (i % itL b) noI))
noncomputable def lgcS (op : ByteArray) (a b : Vec) : ByteArray := match bB (ValidV a ∧ ValidV b) with
  | false => badB
  | true => match bB (op = andB ∨ op = orB) with
    | false => unkB
    | true => match bB (Counts a ∧ Counts b) with
      | false => nonLogB
      | true => match bB (0 ≤ lgcN a b) with | false => lenB | true => ⟨#[]⟩
noncomputable def lgcV (op : ByteArray) (a b : Vec) : Vec := match bB (ValidV a ∧ ValidV b) with
  | false => noV
  | true => match bB (op = andB ∨ op = orB) with
    | false => noV
    | true => match bB (Counts a ∧ Counts b) with
      | false => noV
      | true => match bB (0 ≤ lgcN a b) with | false => noV | true => mkN 1 (itF (fun i => logI (lgcF op a b i)) (lgcN a b).toNat) (namesL (itL a) (itL b) (lgcN a b).toNat (namesV a) (namesV b))
noncomputable def cntL (v : Vec) : Nat := match bB (Counts v) with | true => itL v | false => 0
end Go.Proofs.YtpekdmocgjjhnaaGreat

/- Whether operands suit an operator, in the program. -/
namespace Go.Proofs.YtpekdmocgjjhnaaGreat
open Go.RowKit
set_option maxRecDepth 100000
set_option linter.unusedVariables false

def matchL (m n : Nat) : Prop := 0 ≤ sizeL m n
/-- What problemOfOperands finds where the operands must count as numbers. -/
noncomputable def prbB (known : Bool) (a b : Vec) (uns : ByteArray) : ByteArray := match bB (ValidV a ∧ ValidV b) with
  | false => badB
  | true => match known with
    | false => unkB
    | true => match bB (Counts a ∧ Counts b) with
      | false => uns
      | true => match bB (matchL (itL a) (itL b)) with | false => lenB | true => ⟨#[]⟩
end Go.Proofs.YtpekdmocgjjhnaaGreat

/- The reference's l4Clean: names that are all empty are left out. -/
namespace Go.Proofs.YtpekdmocgjjhnaaGreat
set_option maxRecDepth 100000
open Go.RowKit
set_option linter.unusedVariables false
set_option maxHeartbeats 4000000 in
theorem specClean (kk code env : Int) (items : List It) (parts : List Vec) (names cls levels : List ByteArray) (ai ap an ac al : Option Addr) (ci cp cn cc cl lo hi : Nat) (w : World) (hN : TextsAt lo hi w an names) (hhi : hi ≤ w.heap.size) (ln : names.length ≤ 1048576) :
    Calls Tryz.prog 48 #[.agg #[.int .i64 kk, .slice ai items.length ci, .slice ap parts.length cp, .slice an names.length cn, .slice ac cls.length cc, .slice al levels.length cl, .int .i64 code, .int .i64 env]] w fun e w' => Below w.heap.size w w' ∧ (((∃ i, i < names.length ∧ txtS names i ≠ ⟨#[]⟩) ∧ e = .returned (.agg #[.int .i64 kk, .slice ai items.length ci, .slice ap parts.length cp, .slice an names.length cn, .slice ac cls.length cc, .slice al levels.length cl, .int .i64 code, .int .i64 env])) ∨
      ((∀ i, i < names.length → txtS names i = ⟨#[]⟩) ∧ ∃ g, w.heap.size ≤ g ∧ e = .returned (.agg #[.int .i64 kk, .slice ai items.length ci, .slice ap parts.length cp, .slice (some ⟨g, 0, none⟩) 0 0, .slice ac cls.length cc, .slice al levels.length cl, .int .i64 code, .int .i64 env]))) := by
  have HT := Lib.hid (fun (w1 : World) (hb : Below w.heap.size w w1) (k : Nat) (hk : k < names.length) => show ∃ b off, an = some ⟨b, off, none⟩ ∧ w1.cell? ⟨b, off + k, none⟩ = some (.string (txtS names k)) from by
    obtain ⟨b, off, e, _, _, h⟩ := (hN.below hb hhi) k (txtS names k) (by unfold txtS; simp [List.getD_eq_getElem?_getD, List.getElem?_eq_getElem hk])
    exact ⟨b, off, e, h⟩)
  clear hN
  obtain ⟨n, hn⟩ : ∃ n, names.length = n := ⟨_, rfl⟩
  rw [hn] at HT ln ⊢
  clear hn
  go_enter Tryz.func48, Tryz.ntmps48
  obtain ⟨w1, hw1⟩ : ∃ W, (w.alloc (.cells #[.int .i64 kk, .slice ai items.length ci, .slice ap parts.length cp, .slice an n cn, .slice ac cls.length cc, .slice al levels.length cl, .int .i64 code, .int .i64 env] 31)).alloc (.cells #[.int .i64 0, .slice none 0 0, .slice none 0 0, .slice none 0 0, .slice none 0 0, .slice none 0 0, .int .i64 0, .int .i64 0] 31) = W := ⟨_, rfl⟩
  have hsz : (w.alloc (.cells #[.int .i64 kk, .slice ai items.length ci, .slice ap parts.length cp, .slice an n cn, .slice ac cls.length cc, .slice al levels.length cl, .int .i64 code, .int .i64 env] 31)).heap.size = w.heap.size + 1 := by simp
  have B1 := Lib.hid (show Below w.heap.size w w1 from hw1 ▸ (below1 w _).alloc (by simp) _)
  have KA := Lib.hid (show w1.heap[w.heap.size]? = some (.cells #[.int .i64 kk, .slice ai items.length ci, .slice ap parts.length cp, .slice an n cn, .slice ac cls.length cc, .slice al levels.length cl, .int .i64 code, .int .i64 env] 31 (0, 0)) from hw1 ▸ blk_old (blk_new w _ rfl))
  have KR := Lib.hid (show w1.heap[w.heap.size + 1]? = some (.cells #[.int .i64 0, .slice none 0 0, .slice none 0 0, .slice none 0 0, .slice none 0 0, .slice none 0 0, .int .i64 0, .int .i64 0] 31 (0, 0)) from hw1 ▸ hsz ▸ blk_new (w.alloc (.cells #[.int .i64 kk, .slice ai items.length ci, .slice ap parts.length cp, .slice an n cn, .slice ac cls.length cc, .slice al levels.length cl, .int .i64 code, .int .i64 env] 31)) (.cells #[.int .i64 0, .slice none 0 0, .slice none 0 0, .slice none 0 0, .slice none 0 0, .slice none 0 0, .int .i64 0, .int .i64 0] 31) rfl)
  have EW := Lib.hid hw1
  clear hw1 hsz
  go_wp2
  go_loopw [3] (fun i wr => ∃ k : Nat, k ≤ n ∧ i = .int .i64 k ∧ wr = w1 ∧ ∀ j, j < k → txtS names j = ⟨#[]⟩) (fun i _ => n - (intOf i).toNat)
  case atStart => exact ⟨0, Nat.zero_le _, rfl, EW.out, fun j h => absurd h (Nat.not_lt_zero _)⟩
  case round =>
    obtain ⟨k, hk, rfl, rfl, hj⟩ := hrel
    have HJ := Lib.hid hj
    clear hj
    obtain ⟨k0, k1, k2, k3, k4, k5, k6, k7⟩ := vec8 KA.out
    by_cases hlt : k < n
    · obtain ⟨b, off, rfl, c⟩ := HT.out _ B1.out _ hlt
      by_cases q : txtS names k = ⟨#[]⟩
      · rw [q] at c
        have Q := Lib.hid q
        clear q
        go_wp2
        go_roundw
        case rel => exact ⟨k + 1, by omega, by go_num, trivial, fun j h => by
          rcases Nat.lt_or_ge j k with h' | h'
          · exact HJ.out j h'
          · obtain rfl : j = k := by omega
            exact Q.out⟩
        case measure => simp [intOf]; omega
      · obtain ⟨x, hx⟩ : ∃ x, txtS names k = x := ⟨_, rfl⟩
        rw [hx] at c
        have Q := Lib.hid q
        have hxb : (x.toList == []) = false := by have h := str_not (hx ▸ q); rw [ByteArray.toList_eq ⟨#[]⟩] at h; exact h
        clear q hx
        obtain ⟨z0, z1, z2, z3, z4, z5, z6, z7⟩ := vec8 KR.out
        obtain ⟨f0, f1, f2, f3, f4, f5, f6, f7⟩ := free8 KR.out
        go_wp2
        exact vec_end rfl rfl rfl KR.out ⟨put8_below B1.out (Nat.le_succ _), .inl ⟨⟨k, hlt, Q.out⟩, rfl⟩⟩
    · obtain rfl : k = n := by omega
      go_upto_region 6 with (fail)
      clear k0 k1 k2 k3 k4 k5 k6 k7
      have KA2 := Lib.hid (show (wr.alloc (.cells #[] 9)).heap[w.heap.size]? = some (.cells #[.int .i64 kk, .slice ai items.length ci, .slice ap parts.length cp, .slice an k cn, .slice ac cls.length cc, .slice al levels.length cl, .int .i64 code, .int .i64 env] 31 (0, 0)) from blk_old KA.out)
      have KR2 := Lib.hid (show (wr.alloc (.cells #[] 9)).heap[w.heap.size + 1]? = some (.cells #[.int .i64 0, .slice none 0 0, .slice none 0 0, .slice none 0 0, .slice none 0 0, .slice none 0 0, .int .i64 0, .int .i64 0] 31 (0, 0)) from blk_old KR.out)
      have u2 : ∃ x, (wr.alloc (.cells #[] 9)).cell? ⟨w.heap.size, 3, none⟩ = some x := ⟨_, cellOf KA2.out rfl⟩
      obtain ⟨x2, hx2⟩ := u2
      have hf2 : (wr.alloc (.cells #[] 9)).frozen? ⟨w.heap.size, 3, none⟩ = false := freeOf KA2.out
      obtain ⟨w3, hw⟩ : ∃ W, (wr.alloc (.cells #[] 9)).setCell ⟨w.heap.size, 3, none⟩ (.slice (some ⟨wr.heap.size, 0, none⟩) 0 0) = W := ⟨_, rfl⟩
      have KA3 := Lib.hid (show w3.heap[w.heap.size]? = some (.cells #[.int .i64 kk, .slice ai items.length ci, .slice ap parts.length cp, .slice (some ⟨wr.heap.size, 0, none⟩) 0 0, .slice ac cls.length cc, .slice al levels.length cl, .int .i64 code, .int .i64 env] 31 (0, 0)) from hw ▸ Joins.block_setCell KA2.out _)
      have KR3 := Lib.hid (show w3.heap[w.heap.size + 1]? = some (.cells #[.int .i64 0, .slice none 0 0, .slice none 0 0, .slice none 0 0, .slice none 0 0, .slice none 0 0, .int .i64 0, .int .i64 0] 31 (0, 0)) from hw ▸ (Below.heap_setCell _ _ _ _ (by show w.heap.size + 1 ≠ w.heap.size; omega)).trans KR2.out)
      have B3 := Lib.hid (show Below w.heap.size w w3 from hw ▸ (B1.out.alloc B1.out.size _).setCell (p := ⟨w.heap.size, 3, none⟩) (Nat.le_refl _) _)
      have EW3 := Lib.hid hw
      clear hw
      go_upto_region 7 with (fail)
      rw [EW3.out]
      clear hx2 hf2
      obtain ⟨k0, k1, k2, k3, k4, k5, k6, k7⟩ := vec8 KA3.out
      obtain ⟨z0, z1, z2, z3, z4, z5, z6, z7⟩ := vec8 KR3.out
      obtain ⟨f0, f1, f2, f3, f4, f5, f6, f7⟩ := free8 KR3.out
      go_wp2
      exact vec_end rfl rfl rfl KR3.out ⟨put8_below B3.out (Nat.le_succ _), .inr ⟨HJ.out, wr.heap.size, B1.out.size, rfl⟩⟩
end Go.Proofs.YtpekdmocgjjhnaaGreat

/- The reference's l4Pick: elements of an atomic vector at positions within its length. -/
namespace Go.Proofs.YtpekdmocgjjhnaaGreat
open Go.RowKit
set_option maxRecDepth 100000
set_option linter.unusedVariables false

theorem pkT_succ {α : Type} {z : α} {l : List α} {idx : List Nat} {k : Nat} (h : l.length ≠ 0) (hk : k < idx.length) : pkL z l (idx.take (k + 1)) = pkL z l (idx.take k) ++ [l.getD (idx.getD k 0) z] := by
  rw [pkL_some h, pkL_some h, List.take_add_one, List.map_append]
  simp [List.getD_eq_getElem?_getD, hk]
theorem pkT_nil {α : Type} {z : α} {l : List α} (h : l.length = 0) (idx : List Nat) : pkL z l idx = [] := by
  rw [List.eq_nil_of_length_eq_zero h]; rfl
theorem pkT_full {α : Type} (z : α) (l : List α) (idx : List Nat) : pkL z l (idx.take idx.length) = pkL z l idx := by rw [List.take_length]
theorem pkT_zero {α : Type} (z : α) (l : List α) (idx : List Nat) : pkL z l (idx.take 0) = [] := by
  cases l with
  | nil => rfl
  | cons x l => rfl
theorem pkT_len {α : Type} (z : α) (l : List α) (idx : List Nat) (k : Nat) : (pkL z l (idx.take k)).length ≤ k := by
  have := pkL_len z l (idx.take k)
  rw [List.length_take] at this
  omega
theorem Und.keep {lo : Nat} {w : World} {d : Nat} {items : List It} {parts : List Vec} {names cls lev : List ByteArray} {vi vp vn vc vl : Value} {X : List Nat} {w' : World} (h : Und lo w d items parts names cls lev vi vp vn vc vl X) (hb : Below w.heap.size w w') : Und lo w' d items parts names cls lev vi vp vn vc vl X := h.below hb
theorem row_form {lo : Nat} {w : World} {el : TypeId} {size n : Nat} {v : Value} {xs : List Value} (h : w.ownsRow lo el size v n xs) : ∃ s c, v = .slice s n c := by
  obtain ⟨_, ⟨e, h0⟩ | ⟨g, cap, cur, e, _⟩⟩ := h
  · subst h0; exact ⟨_, _, e⟩
  · exact ⟨_, _, e⟩
theorem specCleanN (kk code env : Int) (ai ap an ac al : Option Addr) (ni ci np cp cn nc cc nl cl : Nat) (names : List ByteArray) (lo hi : Nat) (w : World) (hN : TextsAt lo hi w an names) (hhi : hi ≤ w.heap.size) (ln : names.length ≤ 1048576) :
    Calls Tryz.prog 48 #[.agg #[.int .i64 kk, .slice ai ni ci, .slice ap np cp, .slice an names.length cn, .slice ac nc cc, .slice al nl cl, .int .i64 code, .int .i64 env]] w fun e w' => Below w.heap.size w w' ∧ (((∃ i, i < names.length ∧ txtS names i ≠ ⟨#[]⟩) ∧ e = .returned (.agg #[.int .i64 kk, .slice ai ni ci, .slice ap np cp, .slice an names.length cn, .slice ac nc cc, .slice al nl cl, .int .i64 code, .int .i64 env])) ∨
      ((∀ i, i < names.length → txtS names i = ⟨#[]⟩) ∧ ∃ g, w.heap.size ≤ g ∧ e = .returned (.agg #[.int .i64 kk, .slice ai ni ci, .slice ap np cp, .slice (some ⟨g, 0, none⟩) 0 0, .slice ac nc cc, .slice al nl cl, .int .i64 code, .int .i64 env]))) := by
  have h := specClean kk code env (List.replicate ni noI) (List.replicate np noV) names (List.replicate nc ⟨#[]⟩) (List.replicate nl ⟨#[]⟩) ai ap an ac al ci cp cn cc cl lo hi w hN hhi ln
  simp only [List.length_replicate] at h
  exact h
theorem far_two {lo : Nat} {v : Value} {g b : Nat} {t t2 : TypeId} {C C2 : Array Value} {q : Nat × TypeId × Array Value} (h : ∀ k, v.ownBlock = some k → lo ≤ k) (hg : g < lo) (hb : b < lo) (hq : q ∈ [(g, t, C), (b, t2, C2)]) : ∀ k, v.ownBlock = some k → q.1 ≠ k := by
  intro k hk e
  have := h k hk
  simp only [List.mem_cons, List.not_mem_nil, or_false] at hq
  rcases hq with rfl | rfl <;> (simp only at e; omega)
set_option maxHeartbeats 8000000 in
theorem specPickA (d : Nat) (kk : Int) (items : List It) (parts : List Vec) (names cls levels : List ByteArray) (code env : Int) (ai ap an ac al xi : Option Addr) (ci cp cn cc cl xc lo hi B : Nat) (idx : List Nat) (w : World) (hI : ItemsAt lo hi w ai items) (hN : TextsAt lo hi w an names) (hC : TextsAt lo hi w ac cls) (hL : TextsAt lo hi w al levels) (hhi : hi ≤ w.heap.size)
    (li : items.length ≤ 1048576) (lp : parts.length = 0) (ln : names.length ≤ 1048576) (lc : cls.length ≤ 1048576) (ll : levels.length ≤ 1048576) (hs : IntsAt B w xi idx.length (fun i => ixF idx i + 1)) (hB : B ≤ w.heap.size) (hn : idx.length ≤ 1048576)
    (hk4 : ¬ kk = 4) (hk5 : ¬ kk = 5) (hin : ∀ i, i < idx.length → idx.getD i 0 < items.length) (hnm : names.length ≠ 0 → names.length = items.length) :
    Calls Tryz.prog 22 #[.agg #[.int .i64 kk, .slice ai items.length ci, .slice ap parts.length cp, .slice an names.length cn, .slice ac cls.length cc, .slice al levels.length cl, .int .i64 code, .int .i64 env], .slice xi idx.length xc] w (ResV (d + 1) (selV kk items parts names cls levels idx) w) := by
  have AI := Lib.hid (fun (k : Nat) (w1 : World) (hk : k < items.length) (hb : Below w.heap.size w w1) => (hI.below hb hhi).at_ hk)
  have AN := Lib.hid (fun (k : Nat) (w1 : World) (hk : k < names.length) (hb : Below w.heap.size w w1) => (show ∃ b off, an = some ⟨b, off, none⟩ ∧ b < hi ∧ w1.cell? ⟨b, off + k, none⟩ = some (.string (names.getD k ⟨#[]⟩)) from (by obtain ⟨b, off, e, _, h1, h2⟩ := (hN.below hb hhi) k (names.getD k ⟨#[]⟩) (by simp [List.getD_eq_getElem?_getD, hk]); exact ⟨b, off, e, h1, h2⟩)))
  have SA := Lib.hid hs
  have IN := Lib.hid hin
  have HC := Lib.hid (fun (w1 : World) (hb : Below w.heap.size w w1) => hC.below hb hhi)
  have HL := Lib.hid (fun (w1 : World) (hb : Below w.heap.size w w1) => hL.below hb hhi)
  have LE := Lib.hid (fun W => (by have h := specLen kk ai ap an ac al items.length ci parts.length cp names.length cn cls.length cc levels.length cl code env W li (by omega); rw [show lenV kk items.length parts.length = items.length by unfold lenV; rw [if_neg hk5]; omega] at h; exact h : Calls Tryz.prog 20 #[.agg #[.int .i64 kk, .slice ai items.length ci, .slice ap parts.length cp, .slice an names.length cn, .slice ac cls.length cc, .slice al levels.length cl, .int .i64 code, .int .i64 env]] W (fun e w' => e = .returned (.int .i64 (items.length : Nat)) ∧ Below W.heap.size W w')))
  have PI := Lib.hid (fun k (h : items.length ≠ 0) (hk : k < idx.length) => pkT_succ (z := noI) (l := items) h hk)
  have PN := Lib.hid (fun k (h : names.length ≠ 0) (hk : k < idx.length) => pkT_succ (z := ⟨#[]⟩) (l := names) h hk)
  have P0 := Lib.hid (fun (h : names.length = 0) k => (pkT_nil (z := ⟨#[]⟩) h (idx.take k) : pkL ⟨#[]⟩ names (idx.take k) = []))
  have EV := Lib.hid (show selV kk items parts names cls levels idx = .mk kk (pkL noI items (idx.take idx.length)) [] (clnN (pkL ⟨#[]⟩ names (idx.take idx.length))) (kpC levels cls) levels 0 0 by rw [pkT_full, pkT_full]; unfold selV; rw [pkT_nil (z := noV) lp])
  have LI := Lib.hid (pkT_len noI items idx)
  have LM := Lib.hid (pkT_len ⟨#[]⟩ names idx)
  have hk4b : (kk == 4) = false := beq_eq_false_iff_ne.2 hk4
  have EK := Lib.hid (fun (h : levels.length ≠ 0) => kpC_some (cls := cls) h)
  have EK0 := Lib.hid (fun (h : levels.length = 0) => (by rw [List.eq_nil_of_length_eq_zero h]; exact ⟨rfl, rfl⟩ : levels = [] ∧ kpC levels cls = []))
  have UST := Lib.hid (fun W => Und.start (w.heap.size + 1 + 1 + 1) W d)
  obtain ⟨V, hV⟩ : ∃ V, selV kk items parts names cls levels idx = V := ⟨_, rfl⟩
  rw [hV] at EV ⊢
  obtain ⟨m, hm⟩ : ∃ m, idx.length = m := ⟨_, rfl⟩
  rw [hm] at SA IN PI PN EV hn ⊢
  obtain ⟨n, hn'⟩ : ∃ n, items.length = n := ⟨_, rfl⟩
  rw [hn'] at AI IN LE PI li hnm ⊢
  obtain ⟨nn, hnn⟩ : ∃ n, names.length = n := ⟨_, rfl⟩
  rw [hnn] at AN LE PN P0 ln hnm ⊢
  have LP := Lib.hid lp
  clear hV hm hn' hnn hI hN hC hL hs hin hk4 hk5 lp
  go_enter Tryz.func22, Tryz.ntmps22
  go_upto_region 2 with (fail)
  obtain ⟨w1, hw1⟩ : ∃ W, ((w.alloc (.cells #[.int .i64 kk, .slice ai n ci, .slice ap parts.length cp, .slice an nn cn, .slice ac cls.length cc, .slice al levels.length cl, .int .i64 code, .int .i64 env] 31)).alloc (.cells #[.int .i64 0, .slice none 0 0, .slice none 0 0, .slice none 0 0, .slice none 0 0, .slice none 0 0, .int .i64 0, .int .i64 0] 31)).alloc (.cells #[.int .i64 kk, .slice none 0 0, .slice none 0 0, .slice none 0 0, .slice none 0 0, .slice none 0 0, .int .i64 0, .int .i64 0] 31) = W := ⟨_, rfl⟩
  have hsz : (w.alloc (.cells #[.int .i64 kk, .slice ai n ci, .slice ap parts.length cp, .slice an nn cn, .slice ac cls.length cc, .slice al levels.length cl, .int .i64 code, .int .i64 env] 31)).heap.size = w.heap.size + 1 := by simp
  have hsz2 : ((w.alloc (.cells #[.int .i64 kk, .slice ai n ci, .slice ap parts.length cp, .slice an nn cn, .slice ac cls.length cc, .slice al levels.length cl, .int .i64 code, .int .i64 env] 31)).alloc (.cells #[.int .i64 0, .slice none 0 0, .slice none 0 0, .slice none 0 0, .slice none 0 0, .slice none 0 0, .int .i64 0, .int .i64 0] 31)).heap.size = w.heap.size + 1 + 1 := by simp
  have hsz3 : w1.heap.size = w.heap.size + 1 + 1 + 1 := by rw [← hw1]; simp
  have BW := Lib.hid (show Below w.heap.size w w1 from hw1 ▸ ((below1 w _).alloc (by simp) _).alloc (by simp; omega) _)
  have KA := Lib.hid (show w1.heap[w.heap.size]? = some (.cells #[.int .i64 kk, .slice ai n ci, .slice ap parts.length cp, .slice an nn cn, .slice ac cls.length cc, .slice al levels.length cl, .int .i64 code, .int .i64 env] 31 (0, 0)) from hw1 ▸ blk_old (blk_old (blk_new w _ rfl)))
  have KR := Lib.hid (show w1.heap[w.heap.size + 1]? = some (.cells #[.int .i64 0, .slice none 0 0, .slice none 0 0, .slice none 0 0, .slice none 0 0, .slice none 0 0, .int .i64 0, .int .i64 0] 31 (0, 0)) from hw1 ▸ blk_old (hsz ▸ blk_new (w.alloc (.cells #[.int .i64 kk, .slice ai n ci, .slice ap parts.length cp, .slice an nn cn, .slice ac cls.length cc, .slice al levels.length cl, .int .i64 code, .int .i64 env] 31)) (.cells #[.int .i64 0, .slice none 0 0, .slice none 0 0, .slice none 0 0, .slice none 0 0, .slice none 0 0, .int .i64 0, .int .i64 0] 31) rfl))
  have KB := Lib.hid (show w1.heap[w.heap.size + 1 + 1]? = some (.cells #[.int .i64 kk, .slice none 0 0, .slice none 0 0, .slice none 0 0, .slice none 0 0, .slice none 0 0, .int .i64 0, .int .i64 0] 31 (0, 0)) from hw1 ▸ hsz2 ▸ blk_new ((w.alloc (.cells #[.int .i64 kk, .slice ai n ci, .slice ap parts.length cp, .slice an nn cn, .slice ac cls.length cc, .slice al levels.length cl, .int .i64 code, .int .i64 env] 31)).alloc (.cells #[.int .i64 0, .slice none 0 0, .slice none 0 0, .slice none 0 0, .slice none 0 0, .slice none 0 0, .int .i64 0, .int .i64 0] 31)) (.cells #[.int .i64 kk, .slice none 0 0, .slice none 0 0, .slice none 0 0, .slice none 0 0, .slice none 0 0, .int .i64 0, .int .i64 0] 31) rfl)
  rw [hw1]
  clear hw1 hsz hsz2
  have hrb : w.heap.size + 1 < w.heap.size + 1 + 1 := Nat.lt_succ_self _
  have hbw : w.heap.size < w.heap.size + 1 + 1 := by omega
  obtain ⟨b, hb⟩ : ∃ b, w.heap.size + 1 + 1 = b := ⟨_, rfl⟩
  rw [hb] at KB UST hsz3 hrb hbw ⊢
  clear hb
  have SL : b + 1 ≤ w1.heap.size := Nat.le_of_eq hsz3.symm
  clear hsz3
  by_cases hl : levels.length = 0
  · have hl0 : ((levels.length : Nat) : Int) ≤ 0 := by omega
    have U := Lib.hid (show Und (b + 1) w1 d [] [] [] (kpC levels cls) levels _ _ _ _ _ [] from by obtain ⟨e1, e2⟩ := EK0.out hl; rw [e2, e1]; exact UST.out w1)
    clear hl
    obtain ⟨a0, a1, a2, a3, a4, a5, a6, a7⟩ := vec8 KA.out
    go_wp2
    clear a0 a1 a2 a3 a4 a5 a6 a7 hl0
    obtain ⟨dv, hdv⟩ : ∃ dv, decide (0 < levels.length) = dv := ⟨_, rfl⟩
    try rw [hdv]
    clear hdv
    have W0 := Lib.hid (show w.heap.size ≤ b + 1 by omega)
    have B0' := Lib.hid (show w.heap.size ≤ b by omega)
    go_loopw [6] (fun i wr => ∃ (k : Nat) (vi vn : Value), k ≤ m ∧ i = .int .i64 k ∧ Below w.heap.size w wr ∧ wr.heap[w.heap.size]? = some (.cells #[.int .i64 kk, .slice ai n ci, .slice ap parts.length cp, .slice an nn cn, .slice ac cls.length cc, .slice al levels.length cl, .int .i64 code, .int .i64 env] 31 (0, 0)) ∧ wr.heap[w.heap.size + 1]? = some (.cells #[.int .i64 0, .slice none 0 0, .slice none 0 0, .slice none 0 0, .slice none 0 0, .slice none 0 0, .int .i64 0, .int .i64 0] 31 (0, 0)) ∧ wr.heap[b]? = some (.cells #[.int .i64 kk, vi, .slice none 0 0, vn, .slice none 0 0, .slice none 0 0, .int .i64 0, .int .i64 0] 31 (0, 0)) ∧ Und (b + 1) wr d (pkL noI items (idx.take k)) [] (pkL ⟨#[]⟩ names (idx.take k)) (kpC levels cls) levels vi (.slice none 0 0) vn (.slice none 0 0) (.slice none 0 0) []) (fun i _ => m - (intOf i).toNat)
    case atStart => exact ⟨0, .slice none 0 0, .slice none 0 0, Nat.zero_le _, rfl, BW.out, KA.out, KR.out, KB.out, by rw [pkT_zero, pkT_zero]; exact U.out⟩
    case round =>
      obtain ⟨k, vi, vn, hk, rfl, hbw', hka, hkr, hkb, hu⟩ := hrel
      have BW := Lib.hid hbw'
      have KA := Lib.hid hka
      have KR := Lib.hid hkr
      have KB := Lib.hid hkb
      have U := Lib.hid hu
      clear hbw' hka hkr hkb hu
      by_cases hlt : k < m
      · obtain ⟨bi, oi, rfl, hbi, cx⟩ := (SA.out.below (BW.out.mono hB)) k hlt
        have hq := IN.out k hlt
        have NXI := Lib.hid (PI.out k (by omega) hlt)
        replace cx := (show wr.cell? ⟨bi, oi + k, none⟩ = some (.int .i64 (((idx.getD k 0 : Nat) : Int) + 1)) from cx)
        have PNk := Lib.hid (fun h => PN.out k h hlt)
        obtain ⟨q, hq'⟩ : ∃ q, idx.getD k 0 = q := ⟨_, rfl⟩
        rw [hq'] at cx hq NXI PNk
        clear hq'
        have IY := Lib.hid (fun W => inYes (q : Int) 0 ((n : Int) - 1) W (by omega) (by omega))
        obtain ⟨ba, off, rfl, hbB, c0, c1, c2'⟩ := AI.out q w hq (Below.refl _ _)
        have c2 : w.cell? ⟨ba, off + q * 3 + 2, none⟩ = some (.string (items.getD q noI).t) := c2'
        have hbaw : ba < w.heap.size := Nat.lt_of_lt_of_le hbB hhi
        obtain ⟨x, hx⟩ : ∃ x, items.getD q noI = x := ⟨_, rfl⟩
        rw [hx] at c0 c1 c2 NXI
        clear hx c2'
        obtain ⟨a0, a1, a2, a3, a4, a5, a6, a7⟩ := vec8 KA.out
        go_wp2_with fail
        with_reducible refine (LE.out _).mono ?_
        rintro e wl ⟨rfl, b'⟩
        have BW := Lib.hid (below_then BW.out b')
        have KA := Lib.hid (blk_below b' KA.out)
        have KR := Lib.hid (blk_below b' KR.out)
        have KB := Lib.hid (blk_below b' KB.out)
        have U := Lib.hid (U.out.below b')
        clear b' a0 a1 a2 a3 a4 a5 a6 a7
        go_wp2_with fail
        with_reducible refine (IY.out _).mono ?_
        rintro e w' ⟨rfl, rfl⟩
        obtain ⟨a0, a1, a2, a3, a4, a5, a6, a7⟩ := vec8 KA.out
        have hbl := (Array.getElem?_eq_some_iff.1 KB.out).1
        have hKR := (Array.getElem?_eq_some_iff.1 KR.out).1
        have KRW := KR
        have UW := U
        by_cases h0 : nn = 0
        · have e0 := P0.out h0 (k + 1)
          have e1 := P0.out h0 k
          have hn0 : (nn : Int) ≤ 0 := by omega
          have H0 := Lib.hid h0
          clear h0
          have LN := Lib.hid (show (pkL noI items (idx.take k)).length ≤ 1048576 by have := LI.out k; omega)
          have FAR := Lib.hid (fun g hg => (U.out.i.lt g hg).1)
          have H := Lib.hid (show HeldC w wl ([(w.heap.size, 31, #[.int .i64 kk, .slice (some ⟨ba, off, none⟩) n ci, .slice ap parts.length cp, .slice an nn cn, .slice ac cls.length cc, .slice al levels.length cl, .int .i64 code, .int .i64 env]), (b, 31, #[.int .i64 kk, vi, .slice none 0 0, vn, .slice none 0 0, .slice none 0 0, .int .i64 0, .int .i64 0])]) from heldC_cons (heldC_cons ⟨BW.out, (fun _ h => by cases h)⟩ KB.out) KA.out)
          go_upto_region 15 with (fail)
          clear a0 a1 a2 a3 a4 a5 a6 a7
          refine run_region (ops := (opsOf Tryz.f22 15)) (S := fun w' => HeldC w w' ([(w.heap.size, 31, #[.int .i64 kk, .slice (some ⟨ba, off, none⟩) n ci, .slice ap parts.length cp, .slice an nn cn, .slice ac cls.length cc, .slice al levels.length cl, .int .i64 code, .int .i64 env]), (b, 31, #[.int .i64 kk, vi, (.slice none 0 0), vn, .slice none 0 0, .slice none 0 0, .int .i64 0, .int .i64 0])])) [(0, true), (1, true), (2, true), (3, true), (4, true), (5, true), (6, true), (7, false), (8, false), (9, true), (10, false)] (by kernel_rfl) (by kernel_rfl) (by kernel_rfl) (by kernel_rfl) (by kernel_rfl) (fun _ _ _ _ _ h => h) (heldC_drew H.out) ?_
          have H := Lib.hid (heldC_drew H.out)
          have U := Lib.hid (U.out.keep (below_drew' (Below.refl _ _)))
          refine runC_partV (b := b) (by kernel_rfl) (show opAt (opsOf Tryz.f22 15) 0 = some (some 69, .fieldAddr 31 (.tmp 5) 1, none) from by kernel_rfl) (by kernel_rfl) (by kernel_rfl) (by kernel_rfl) ?_
          refine runC_cell (b := b) (j := 1) (v := vi) load_its (show opAt (opsOf Tryz.f22 15) 1 = some (some 70, .load 28 (.tmp 69), none) from by kernel_rfl) (by kernel_rfl) (by kernel_rfl) (by kernel_rfl) (List.Mem.tail _ (List.Mem.head _)) rfl ?_
          refine runC_partV (b := w.heap.size) (by kernel_rfl) (show opAt (opsOf Tryz.f22 15) 2 = some (some 71, .fieldAddr 31 (.tmp 2) 1, none) from by kernel_rfl) (by kernel_rfl) (by kernel_rfl) (by kernel_rfl) ?_
          refine runC_cell (b := w.heap.size) (j := 1) (v := .slice (some ⟨ba, off, none⟩) n ci) load_its (show opAt (opsOf Tryz.f22 15) 3 = some (some 72, .load 28 (.tmp 71), none) from by kernel_rfl) (by kernel_rfl) (by kernel_rfl) (by kernel_rfl) (List.Mem.head _) rfl ?_
          refine run_mov (v := .int .i64 ((q : Int))) (show opAt (opsOf Tryz.f22 15) 4 = some (some 73, .move (.tmp 7), none) from by kernel_rfl) (by kernel_rfl) (by kernel_rfl) (by kernel_rfl) ?_
          refine run_idx3 (n := n) (c := ci) (b := ba) (off := off) (k := q) (show opAt (opsOf Tryz.f22 15) 5 = some (some 74, .indexAddr 28 (.tmp 72) (.tmp 73), none) from by kernel_rfl) (by kernel_rfl) (by kernel_rfl) (by kernel_rfl) (by kernel_rfl) hq ?_
          refine runC_oldI (b := ba) (j := off + q * 3) (z := x) (show opAt (opsOf Tryz.f22 15) 6 = some (some 75, .load 66 (.tmp 74), none) from by kernel_rfl) (by kernel_rfl) (by kernel_rfl) (by kernel_rfl) hbaw c0 c1 c2 ?_
          refine tail_its3 x (show opAt (opsOf Tryz.f22 15) 7 = some (some 76, .buildSlice 28 1 #[(0, (.tmp 75))], none) from by kernel_rfl) (by kernel_rfl) (by kernel_rfl) (show opAt (opsOf Tryz.f22 15) 8 = some (some 77, .call { callee := .builtin .append, args := [(.tmp 70), (.tmp 76)].toArray, argTypes := [28, 28].toArray }, none) from by kernel_rfl) (by kernel_rfl) (fun _ => by kernel_rfl) (show opAt (opsOf Tryz.f22 15) 9 = some (some 78, .fieldAddr 31 (.tmp 5) 1, none) from by kernel_rfl) (by kernel_rfl) (by kernel_rfl) (fun _ _ => by kernel_rfl) (show opAt (opsOf Tryz.f22 15) 10 = some (none, .store 28 (.tmp 78) (.tmp 77), none) from by kernel_rfl) (by kernel_rfl) (by kernel_rfl) H.out U.out.i LN.out (Nat.succ_le_of_lt (Array.getElem?_eq_some_iff.1 (heldC_at H.out (List.Mem.tail _ (List.Mem.head _)))).1) W0.out (List.Mem.tail _ (List.Mem.head _)) rfl (Nat.lt_succ_self _) B0'.out (fun q hq => far_two FAR.out (Nat.lt_succ_of_lt hbw) (Nat.lt_succ_self _) hq) ?_
          rintro v' w2 ⟨sa, sn, sc2, rfl⟩ hK hO hB hZ hR hG
          simp only [putAll, Act.put, List.setIfInBounds_toArray, List.set_cons_zero, List.set_cons_succ]
          have KA1 := heldC_at H.out (List.Mem.head _)
          have KR1 := heldC_at H.out (List.Mem.head _)
          have hwa := (Array.getElem?_eq_some_iff.1 KA1).1
          have U := Lib.hid (U.out.setI hO hR (fun g hlo hg hne => hG g hg (by omega) hne) hZ)
          have KA := Lib.hid (show w2.heap[w.heap.size]? = some (.cells #[.int .i64 kk, .slice (some ⟨ba, off, none⟩) n ci, .slice ap parts.length cp, .slice an nn cn, .slice ac cls.length cc, .slice al levels.length cl, .int .i64 code, .int .i64 env] 31 (0, 0)) from (hG _ hwa (by omega) (fun e => by have := FAR.out _ e; omega)).trans KA1)
          have KB := Lib.hid (show w2.heap[b]? = some (.cells #[.int .i64 kk, .slice sa sn sc2, .slice none 0 0, vn, .slice none 0 0, .slice none 0 0, .int .i64 0, .int .i64 0] 31 (0, 0)) from hK)
          have BW := Lib.hid hB
          have KR := Lib.hid (show w2.heap[w.heap.size + 1]? = some (.cells #[.int .i64 0, .slice none 0 0, .slice none 0 0, .slice none 0 0, .slice none 0 0, .slice none 0 0, .int .i64 0, .int .i64 0] 31 (0, 0)) from (hG _ hKR (by omega) (fun e => by have := FAR.out _ e; omega)).trans KRW.out)
          clear hK hO hB hR hG hZ H FAR LN KA1 KR1 hwa
          obtain ⟨a0, a1, a2, a3, a4, a5, a6, a7⟩ := vec8 KA.out
          go_wp2
          go_roundw
          case rel => first | exact ⟨k + 1, _, vn, by omega, by go_num, BW.out, KA.out, KR.out, KB.out, by rw [NXI.out, e0]; rw [e1] at U; exact U.out⟩ | ((repeat apply Exists.intro); exact ⟨⟨k + 1, _, vn, by omega, by go_num, BW.out, KA.out, KR.out, KB.out, by rw [NXI.out, e0]; rw [e1] at U; exact U.out⟩, rfl⟩)
          case measure => simp [intOf]; omega
        · have hqn : q < nn := by have := hnm h0; omega
          have hn0 : 0 < (nn : Int) := by omega
          have NXN := Lib.hid (PNk.out h0)
          obtain ⟨bn, offn, rfl, hbN, cn0⟩ := AN.out q w hqn (Below.refl _ _)
          have hbnw : bn < w.heap.size := Nat.lt_of_lt_of_le hbN hhi
          obtain ⟨s, hs⟩ : ∃ s, names.getD q ⟨#[]⟩ = s := ⟨_, rfl⟩
          rw [hs] at cn0 NXN
          clear hs
          have LN := Lib.hid (show (pkL noI items (idx.take k)).length ≤ 1048576 by have := LI.out k; omega)
          have FAR := Lib.hid (fun g hg => (U.out.i.lt g hg).1)
          have H := Lib.hid (show HeldC w wl ([(w.heap.size, 31, #[.int .i64 kk, .slice (some ⟨ba, off, none⟩) n ci, .slice ap parts.length cp, .slice (some ⟨bn, offn, none⟩) nn cn, .slice ac cls.length cc, .slice al levels.length cl, .int .i64 code, .int .i64 env]), (b, 31, #[.int .i64 kk, vi, .slice none 0 0, vn, .slice none 0 0, .slice none 0 0, .int .i64 0, .int .i64 0])]) from heldC_cons (heldC_cons ⟨BW.out, (fun _ h => by cases h)⟩ KB.out) KA.out)
          go_upto_region 15 with (fail)
          clear a0 a1 a2 a3 a4 a5 a6 a7
          refine run_region (ops := (opsOf Tryz.f22 15)) (S := fun w' => HeldC w w' ([(w.heap.size, 31, #[.int .i64 kk, .slice (some ⟨ba, off, none⟩) n ci, .slice ap parts.length cp, .slice (some ⟨bn, offn, none⟩) nn cn, .slice ac cls.length cc, .slice al levels.length cl, .int .i64 code, .int .i64 env]), (b, 31, #[.int .i64 kk, vi, (.slice none 0 0), vn, .slice none 0 0, .slice none 0 0, .int .i64 0, .int .i64 0])])) [(0, true), (1, true), (2, true), (3, true), (4, true), (5, true), (6, true), (7, false), (8, false), (9, true), (10, false)] (by kernel_rfl) (by kernel_rfl) (by kernel_rfl) (by kernel_rfl) (by kernel_rfl) (fun _ _ _ _ _ h => h) (heldC_drew H.out) ?_
          have H := Lib.hid (heldC_drew H.out)
          have U := Lib.hid (U.out.keep (below_drew' (Below.refl _ _)))
          refine runC_partV (b := b) (by kernel_rfl) (show opAt (opsOf Tryz.f22 15) 0 = some (some 69, .fieldAddr 31 (.tmp 5) 1, none) from by kernel_rfl) (by kernel_rfl) (by kernel_rfl) (by kernel_rfl) ?_
          refine runC_cell (b := b) (j := 1) (v := vi) load_its (show opAt (opsOf Tryz.f22 15) 1 = some (some 70, .load 28 (.tmp 69), none) from by kernel_rfl) (by kernel_rfl) (by kernel_rfl) (by kernel_rfl) (List.Mem.tail _ (List.Mem.head _)) rfl ?_
          refine runC_partV (b := w.heap.size) (by kernel_rfl) (show opAt (opsOf Tryz.f22 15) 2 = some (some 71, .fieldAddr 31 (.tmp 2) 1, none) from by kernel_rfl) (by kernel_rfl) (by kernel_rfl) (by kernel_rfl) ?_
          refine runC_cell (b := w.heap.size) (j := 1) (v := .slice (some ⟨ba, off, none⟩) n ci) load_its (show opAt (opsOf Tryz.f22 15) 3 = some (some 72, .load 28 (.tmp 71), none) from by kernel_rfl) (by kernel_rfl) (by kernel_rfl) (by kernel_rfl) (List.Mem.head _) rfl ?_
          refine run_mov (v := .int .i64 ((q : Int))) (show opAt (opsOf Tryz.f22 15) 4 = some (some 73, .move (.tmp 7), none) from by kernel_rfl) (by kernel_rfl) (by kernel_rfl) (by kernel_rfl) ?_
          refine run_idx3 (n := n) (c := ci) (b := ba) (off := off) (k := q) (show opAt (opsOf Tryz.f22 15) 5 = some (some 74, .indexAddr 28 (.tmp 72) (.tmp 73), none) from by kernel_rfl) (by kernel_rfl) (by kernel_rfl) (by kernel_rfl) (by kernel_rfl) hq ?_
          refine runC_oldI (b := ba) (j := off + q * 3) (z := x) (show opAt (opsOf Tryz.f22 15) 6 = some (some 75, .load 66 (.tmp 74), none) from by kernel_rfl) (by kernel_rfl) (by kernel_rfl) (by kernel_rfl) hbaw c0 c1 c2 ?_
          refine tail_its3 x (show opAt (opsOf Tryz.f22 15) 7 = some (some 76, .buildSlice 28 1 #[(0, (.tmp 75))], none) from by kernel_rfl) (by kernel_rfl) (by kernel_rfl) (show opAt (opsOf Tryz.f22 15) 8 = some (some 77, .call { callee := .builtin .append, args := [(.tmp 70), (.tmp 76)].toArray, argTypes := [28, 28].toArray }, none) from by kernel_rfl) (by kernel_rfl) (fun _ => by kernel_rfl) (show opAt (opsOf Tryz.f22 15) 9 = some (some 78, .fieldAddr 31 (.tmp 5) 1, none) from by kernel_rfl) (by kernel_rfl) (by kernel_rfl) (fun _ _ => by kernel_rfl) (show opAt (opsOf Tryz.f22 15) 10 = some (none, .store 28 (.tmp 78) (.tmp 77), none) from by kernel_rfl) (by kernel_rfl) (by kernel_rfl) H.out U.out.i LN.out (Nat.succ_le_of_lt (Array.getElem?_eq_some_iff.1 (heldC_at H.out (List.Mem.tail _ (List.Mem.head _)))).1) W0.out (List.Mem.tail _ (List.Mem.head _)) rfl (Nat.lt_succ_self _) B0'.out (fun q hq => far_two FAR.out (Nat.lt_succ_of_lt hbw) (Nat.lt_succ_self _) hq) ?_
          rintro v' w2 ⟨sa, sn, sc2, rfl⟩ hK hO hB hZ hR hG
          simp only [putAll, Act.put, List.setIfInBounds_toArray, List.set_cons_zero, List.set_cons_succ]
          have KA1 := heldC_at H.out (List.Mem.head _)
          have KR1 := heldC_at H.out (List.Mem.head _)
          have hwa := (Array.getElem?_eq_some_iff.1 KA1).1
          have U := Lib.hid (U.out.setI hO hR (fun g hlo hg hne => hG g hg (by omega) hne) hZ)
          have KA := Lib.hid (show w2.heap[w.heap.size]? = some (.cells #[.int .i64 kk, .slice (some ⟨ba, off, none⟩) n ci, .slice ap parts.length cp, .slice (some ⟨bn, offn, none⟩) nn cn, .slice ac cls.length cc, .slice al levels.length cl, .int .i64 code, .int .i64 env] 31 (0, 0)) from (hG _ hwa (by omega) (fun e => by have := FAR.out _ e; omega)).trans KA1)
          have KB := Lib.hid (show w2.heap[b]? = some (.cells #[.int .i64 kk, .slice sa sn sc2, .slice none 0 0, vn, .slice none 0 0, .slice none 0 0, .int .i64 0, .int .i64 0] 31 (0, 0)) from hK)
          have BW := Lib.hid hB
          have KR := Lib.hid (show w2.heap[w.heap.size + 1]? = some (.cells #[.int .i64 0, .slice none 0 0, .slice none 0 0, .slice none 0 0, .slice none 0 0, .slice none 0 0, .int .i64 0, .int .i64 0] 31 (0, 0)) from (hG _ hKR (by omega) (fun e => by have := FAR.out _ e; omega)).trans KRW.out)
          clear hK hO hB hR hG hZ H FAR LN KA1 KR1 hwa
          obtain ⟨a0, a1, a2, a3, a4, a5, a6, a7⟩ := vec8 KA.out
          have hKR := (Array.getElem?_eq_some_iff.1 KR.out).1
          have KRW := KR
          have LN := Lib.hid (show (pkL ⟨#[]⟩ names (idx.take k)).length ≤ 1048576 by have := LM.out k; omega)
          have FAR := Lib.hid (fun g hg => (U.out.n.lt g hg).1)
          have H := Lib.hid (show HeldC w w2 ([(w.heap.size, 31, #[.int .i64 kk, .slice (some ⟨ba, off, none⟩) n ci, .slice ap parts.length cp, .slice (some ⟨bn, offn, none⟩) nn cn, .slice ac cls.length cc, .slice al levels.length cl, .int .i64 code, .int .i64 env]), (b, 31, #[.int .i64 kk, .slice sa sn sc2, .slice none 0 0, vn, .slice none 0 0, .slice none 0 0, .int .i64 0, .int .i64 0])]) from heldC_cons (heldC_cons ⟨BW.out, (fun _ h => by cases h)⟩ KB.out) KA.out)
          go_upto_region 18 with (fail)
          clear a0 a1 a2 a3 a4 a5 a6 a7
          refine run_region (ops := (opsOf Tryz.f22 18)) (S := fun w' => HeldC w w' ([(w.heap.size, 31, #[.int .i64 kk, .slice (some ⟨ba, off, none⟩) n ci, .slice ap parts.length cp, .slice (some ⟨bn, offn, none⟩) nn cn, .slice ac cls.length cc, .slice al levels.length cl, .int .i64 code, .int .i64 env]), (b, 31, #[.int .i64 kk, (.slice sa sn sc2), (.slice none 0 0), vn, .slice none 0 0, .slice none 0 0, .int .i64 0, .int .i64 0])])) [(0, true), (1, true), (2, true), (3, true), (4, true), (5, true), (6, true), (7, false), (8, false), (9, true), (10, false)] (by kernel_rfl) (by kernel_rfl) (by kernel_rfl) (by kernel_rfl) (by kernel_rfl) (fun _ _ _ _ _ h => h) (heldC_drew H.out) ?_
          have H := Lib.hid (heldC_drew H.out)
          have U := Lib.hid (U.out.keep (below_drew' (Below.refl _ _)))
          refine runC_partV (b := b) (by kernel_rfl) (show opAt (opsOf Tryz.f22 18) 0 = some (some 92, .fieldAddr 31 (.tmp 5) 3, none) from by kernel_rfl) (by kernel_rfl) (by kernel_rfl) (by kernel_rfl) ?_
          refine runC_cell (b := b) (j := 3) (v := vn) load_strs (show opAt (opsOf Tryz.f22 18) 1 = some (some 93, .load 24 (.tmp 92), none) from by kernel_rfl) (by kernel_rfl) (by kernel_rfl) (by kernel_rfl) (List.Mem.tail _ (List.Mem.head _)) rfl ?_
          refine runC_partV (b := w.heap.size) (by kernel_rfl) (show opAt (opsOf Tryz.f22 18) 2 = some (some 94, .fieldAddr 31 (.tmp 2) 3, none) from by kernel_rfl) (by kernel_rfl) (by kernel_rfl) (by kernel_rfl) ?_
          refine runC_cell (b := w.heap.size) (j := 3) (v := .slice (some ⟨bn, offn, none⟩) nn cn) load_strs (show opAt (opsOf Tryz.f22 18) 3 = some (some 95, .load 24 (.tmp 94), none) from by kernel_rfl) (by kernel_rfl) (by kernel_rfl) (by kernel_rfl) (List.Mem.head _) rfl ?_
          refine run_mov (v := .int .i64 ((q : Int))) (show opAt (opsOf Tryz.f22 18) 4 = some (some 96, .move (.tmp 7), none) from by kernel_rfl) (by kernel_rfl) (by kernel_rfl) (by kernel_rfl) ?_
          refine run_idx1 (n := nn) (c := cn) (b := bn) (off := offn) (k := q) (show opAt (opsOf Tryz.f22 18) 5 = some (some 97, .indexAddr 24 (.tmp 95) (.tmp 96), none) from by kernel_rfl) (by kernel_rfl) (by kernel_rfl) (by kernel_rfl) (by kernel_rfl) hqn Tryz.underlying24 (by kernel_rfl) infoStr ?_
          refine runC_old (b := bn) (j := offn + q) (v := .string s) load_text (show opAt (opsOf Tryz.f22 18) 6 = some (some 98, .load 9 (.tmp 97), none) from by kernel_rfl) (by kernel_rfl) (by kernel_rfl) (by kernel_rfl) hbnw cn0 ?_
          refine tail_txs3 s (show opAt (opsOf Tryz.f22 18) 7 = some (some 99, .buildSlice 24 1 #[(0, (.tmp 98))], none) from by kernel_rfl) (by kernel_rfl) (by kernel_rfl) (show opAt (opsOf Tryz.f22 18) 8 = some (some 100, .call { callee := .builtin .append, args := [(.tmp 93), (.tmp 99)].toArray, argTypes := [24, 24].toArray }, none) from by kernel_rfl) (by kernel_rfl) (fun _ => by kernel_rfl) (show opAt (opsOf Tryz.f22 18) 9 = some (some 101, .fieldAddr 31 (.tmp 5) 3, none) from by kernel_rfl) (by kernel_rfl) (by kernel_rfl) (fun _ _ => by kernel_rfl) (show opAt (opsOf Tryz.f22 18) 10 = some (none, .store 24 (.tmp 101) (.tmp 100), none) from by kernel_rfl) (by kernel_rfl) (by kernel_rfl) H.out U.out.n LN.out (Nat.succ_le_of_lt (Array.getElem?_eq_some_iff.1 (heldC_at H.out (List.Mem.tail _ (List.Mem.head _)))).1) W0.out (List.Mem.tail _ (List.Mem.head _)) rfl (Nat.lt_succ_self _) B0'.out (fun q hq => far_two FAR.out (Nat.lt_succ_of_lt hbw) (Nat.lt_succ_self _) hq) ?_
          rintro v' w3 ⟨sa3, sn3, sc3, rfl⟩ hK hO hB hZ hR hG
          simp only [putAll, Act.put, List.setIfInBounds_toArray, List.set_cons_zero, List.set_cons_succ]
          have KA1 := heldC_at H.out (List.Mem.head _)
          have KR1 := heldC_at H.out (List.Mem.head _)
          have hwa := (Array.getElem?_eq_some_iff.1 KA1).1
          have U := Lib.hid (U.out.setN hO hR (fun g hlo hg hne => hG g hg (by omega) hne) hZ)
          have KA := Lib.hid (show w3.heap[w.heap.size]? = some (.cells #[.int .i64 kk, .slice (some ⟨ba, off, none⟩) n ci, .slice ap parts.length cp, .slice (some ⟨bn, offn, none⟩) nn cn, .slice ac cls.length cc, .slice al levels.length cl, .int .i64 code, .int .i64 env] 31 (0, 0)) from (hG _ hwa (by omega) (fun e => by have := FAR.out _ e; omega)).trans KA1)
          have KB := Lib.hid (show w3.heap[b]? = some (.cells #[.int .i64 kk, .slice sa sn sc2, .slice none 0 0, .slice sa3 sn3 sc3, .slice none 0 0, .slice none 0 0, .int .i64 0, .int .i64 0] 31 (0, 0)) from hK)
          have BW := Lib.hid hB
          have KR := Lib.hid (show w3.heap[w.heap.size + 1]? = some (.cells #[.int .i64 0, .slice none 0 0, .slice none 0 0, .slice none 0 0, .slice none 0 0, .slice none 0 0, .int .i64 0, .int .i64 0] 31 (0, 0)) from (hG _ hKR (by omega) (fun e => by have := FAR.out _ e; omega)).trans KRW.out)
          clear hK hO hB hR hG hZ H FAR LN KA1 KR1 hwa
          go_wp2
          go_roundw
          case rel => first | exact ⟨k + 1, _, _, by omega, by go_num, BW.out, KA.out, KR.out, KB.out, by rw [NXI.out, NXN.out]; exact U.out⟩ | ((repeat apply Exists.intro); exact ⟨⟨k + 1, _, _, by omega, by go_num, BW.out, KA.out, KR.out, KB.out, by rw [NXI.out, NXN.out]; exact U.out⟩, rfl⟩)
          case measure => simp [intOf]; omega
      · obtain rfl : k = m := by omega
        obtain ⟨si, qi, rfl⟩ := row_form U.out.i
        obtain ⟨sn, qn, Fn, rfl, hot, _, hrt, _⟩ := txs_of_row U.out.n
        have CLN := Lib.hid (fun (W : World) (hb : Below wr.heap.size wr W) => specCleanN kk 0 0 si none sn none none (pkL noI items (idx.take k)).length qi 0 0 qn 0 0 0 0 (pkL ⟨#[]⟩ names (idx.take k)) (b + 1) wr.heap.size W ((hot.at_ hrt).below hb (Nat.le_refl _)) hb.size (Nat.le_trans (LM.out k) hn))
        clear hot hrt
        obtain ⟨k0, k1, k2, k3, k4, k5, k6, k7⟩ := vec8 KB.out
        have hKR := (Array.getElem?_eq_some_iff.1 KR.out).1
        go_wp2_with fail
        refine (CLN.out _ (Below.refl _ _)).mono ?_
        rintro e w5 ⟨b', hor⟩
        have BW := Lib.hid (below_then BW.out b')
        have KR := Lib.hid (blk_below b' KR.out)
        have O := Lib.hid ((U.out.below b').own kk)
        have hL1 : w.heap.size + 1 < b + 1 := by omega
        clear b' k0 k1 k2 k3 k4 k5 k6 k7
        obtain ⟨z0, z1, z2, z3, z4, z5, z6, z7⟩ := vec8 KR.out
        obtain ⟨f0, f1, f2, f3, f4, f5, f6, f7⟩ := free8 KR.out
        rcases hor with ⟨hex, rfl⟩ | ⟨hem, g, hg, rfl⟩
        · have EN := Lib.hid (clnN_yes (l := pkL ⟨#[]⟩ names (idx.take k)) (by obtain ⟨i, h1, h2⟩ := hex; exact ⟨i, h1, fun h => h2 (empty_of_size h)⟩))
          rw [EN.out] at EV
          rw [← EV.out] at O
          clear EV EN hex
          go_wp2
          exact vec_end rfl rfl rfl KR.out ⟨_, rfl, (O.out.put8 hL1 _ _ _ _ _ _ _ _).wide (by omega) (by rw [put8_size]; exact Nat.le_refl _), put8_below BW.out (Nat.le_succ _)⟩
        · have EN := Lib.hid (clnN_no (l := pkL ⟨#[]⟩ names (idx.take k)) (fun ⟨i, h1, h2⟩ => h2 (show (txtS _ i).size = 0 by rw [hem i h1]; rfl)))
          rw [EN.out] at EV
          have O := Lib.hid (O.out.noNames (some ⟨g, 0, none⟩) 0)
          rw [← EV.out] at O
          clear EV EN hem hg
          go_wp2
          exact vec_end rfl rfl rfl KR.out ⟨_, rfl, (O.out.put8 hL1 _ _ _ _ _ _ _ _).wide (by omega) (by rw [put8_size]; exact Nat.le_refl _), put8_below BW.out (Nat.le_succ _)⟩
  · have hl0 : 0 < ((levels.length : Nat) : Int) := by omega
    have U := Lib.hid (UST.out w1)
    have EKL := Lib.hid (EK.out hl)
    clear hl
    obtain ⟨a0, a1, a2, a3, a4, a5, a6, a7⟩ := vec8 KA.out
    have hltA := (Array.getElem?_eq_some_iff.1 KA.out).1
    obtain ⟨w2, hw2⟩ : ∃ W, w1.alloc (.cells #[] 9) = W := ⟨_, rfl⟩
    have B12 := Lib.hid (show Below w1.heap.size w1 w2 from hw2 ▸ below1 w1 _)
    have KS := Lib.hid (show w2.heap[w1.heap.size]? = some (.cells #[] 9 (0, 0)) from hw2 ▸ blk_new w1 _ rfl)
    have BW2 := Lib.hid (below_then BW.out B12.out)
    have EW := Lib.hid hw2
    clear hw2
    go_wp2_with (at_builtin; go_loud (rw [EW.out]; refine wpList_copyTz (w0 := w1) rfl _ _ rfl _ rfl (.inr ⟨w1.heap.size, Nat.le_refl _, rfl, KS.out⟩) B12.out ac cc cls lo hi rfl (HC.out _ BW2.out) lc ?_))
    intro v' w3 tz
    obtain ⟨sc, nc, qc, rfl⟩ := tz.form
    have U := Lib.hid (U.out.setC (row_lo tz.row SL) (moved_new tz.row) (fun g _ hg _ => tz.below.block g hg) tz.below.size)
    have BW := Lib.hid (below_then BW.out tz.below)
    have KA := Lib.hid (blk_below tz.below KA.out)
    have KB := Lib.hid (blk_below tz.below KB.out)
    have KR := Lib.hid (blk_below tz.below KR.out)
    have SL := Nat.le_trans SL tz.below.size
    clear tz a0 a1 a2 a3 a4 a5 a6 a7 hltA
    obtain ⟨a0, a1, a2, a3, a4, a5, a6, a7⟩ := vec8 KA.out
    obtain ⟨k0, k1, k2, k3, k4, k5, k6, k7⟩ := vec8 KB.out
    obtain ⟨g0, g1, g2, g3, g4, g5, g6, g7⟩ := free8 KB.out
    have hbb := (Array.getElem?_eq_some_iff.1 KB.out).1
    go_upto_region 4 with (fail)
    clear a0 a1 a2 a3 a4 a5 a6 a7 k0 k1 k2 k3 k4 k5 k6 k7 g0 g1 g2 g3 g4 g5 g6 g7 hbb
    obtain ⟨w4, hw⟩ : ∃ W, w3.setCell ⟨b, 4, none⟩ (.slice sc nc qc) = W := ⟨_, rfl⟩
    have KB := Lib.hid (show w4.heap[b]? = some (.cells #[.int .i64 kk, .slice none 0 0, .slice none 0 0, .slice none 0 0, .slice sc nc qc, .slice none 0 0, .int .i64 0, .int .i64 0] 31 (0, 0)) from hw ▸ Joins.block_setCell KB.out _)
    have KA := Lib.hid (show w4.heap[w.heap.size]? = some (.cells #[.int .i64 kk, .slice ai n ci, .slice ap parts.length cp, .slice an nn cn, .slice ac cls.length cc, .slice al levels.length cl, .int .i64 code, .int .i64 env] 31 (0, 0)) from hw ▸ (Below.heap_setCell _ _ _ _ (show w.heap.size ≠ b by omega)).trans KA.out)
    have KR := Lib.hid (show w4.heap[w.heap.size + 1]? = some (.cells #[.int .i64 0, .slice none 0 0, .slice none 0 0, .slice none 0 0, .slice none 0 0, .slice none 0 0, .int .i64 0, .int .i64 0] 31 (0, 0)) from hw ▸ (Below.heap_setCell _ _ _ _ (show w.heap.size + 1 ≠ b by omega)).trans KR.out)
    have BW := Lib.hid (show Below w.heap.size w w4 from hw ▸ BW.out.setCell (p := ⟨b, 4, none⟩) (show w.heap.size ≤ b by omega) _)
    have U := Lib.hid (show Und (b + 1) w4 _ _ _ _ _ _ _ _ _ _ _ _ from hw ▸ U.out.put (Nat.lt_succ_self _))
    have SL := Nat.le_trans SL (show w3.heap.size ≤ w4.heap.size from hw ▸ (by simp))
    rw [hw]
    clear hw
    obtain ⟨a0, a1, a2, a3, a4, a5, a6, a7⟩ := vec8 KA.out
    have hltA := (Array.getElem?_eq_some_iff.1 KA.out).1
    obtain ⟨w5, hw2⟩ : ∃ W, w4.alloc (.cells #[] 9) = W := ⟨_, rfl⟩
    have B12 := Lib.hid (show Below w4.heap.size w4 w5 from hw2 ▸ below1 w4 _)
    have KS := Lib.hid (show w5.heap[w4.heap.size]? = some (.cells #[] 9 (0, 0)) from hw2 ▸ blk_new w4 _ rfl)
    have BW2 := Lib.hid (below_then BW.out B12.out)
    have EW := Lib.hid hw2
    clear hw2
    go_wp2_with (at_builtin; go_loud (rw [EW.out]; refine wpList_copyTz (w0 := w4) rfl _ _ rfl _ rfl (.inr ⟨w4.heap.size, Nat.le_refl _, rfl, KS.out⟩) B12.out al cl levels lo hi rfl (HL.out _ BW2.out) ll ?_))
    intro v' w6 tz
    obtain ⟨sl, nl, ql, rfl⟩ := tz.form
    have U := Lib.hid (U.out.setL (row_lo tz.row SL) (moved_new tz.row) (fun g _ hg _ => tz.below.block g hg) tz.below.size)
    have BW := Lib.hid (below_then BW.out tz.below)
    have KA := Lib.hid (blk_below tz.below KA.out)
    have KB := Lib.hid (blk_below tz.below KB.out)
    have KR := Lib.hid (blk_below tz.below KR.out)
    have SL := Nat.le_trans SL tz.below.size
    clear tz a0 a1 a2 a3 a4 a5 a6 a7 hltA
    obtain ⟨a0, a1, a2, a3, a4, a5, a6, a7⟩ := vec8 KA.out
    obtain ⟨k0, k1, k2, k3, k4, k5, k6, k7⟩ := vec8 KB.out
    obtain ⟨g0, g1, g2, g3, g4, g5, g6, g7⟩ := free8 KB.out
    have hbb := (Array.getElem?_eq_some_iff.1 KB.out).1
    go_upto_region 5 with (fail)
    clear a0 a1 a2 a3 a4 a5 a6 a7 k0 k1 k2 k3 k4 k5 k6 k7 g0 g1 g2 g3 g4 g5 g6 g7 hbb
    obtain ⟨w7, hw⟩ : ∃ W, w6.setCell ⟨b, 5, none⟩ (.slice sl nl ql) = W := ⟨_, rfl⟩
    have KB := Lib.hid (show w7.heap[b]? = some (.cells #[.int .i64 kk, .slice none 0 0, .slice none 0 0, .slice none 0 0, .slice sc nc qc, .slice sl nl ql, .int .i64 0, .int .i64 0] 31 (0, 0)) from hw ▸ Joins.block_setCell KB.out _)
    have KA := Lib.hid (show w7.heap[w.heap.size]? = some (.cells #[.int .i64 kk, .slice ai n ci, .slice ap parts.length cp, .slice an nn cn, .slice ac cls.length cc, .slice al levels.length cl, .int .i64 code, .int .i64 env] 31 (0, 0)) from hw ▸ (Below.heap_setCell _ _ _ _ (show w.heap.size ≠ b by omega)).trans KA.out)
    have KR := Lib.hid (show w7.heap[w.heap.size + 1]? = some (.cells #[.int .i64 0, .slice none 0 0, .slice none 0 0, .slice none 0 0, .slice none 0 0, .slice none 0 0, .int .i64 0, .int .i64 0] 31 (0, 0)) from hw ▸ (Below.heap_setCell _ _ _ _ (show w.heap.size + 1 ≠ b by omega)).trans KR.out)
    have BW := Lib.hid (show Below w.heap.size w w7 from hw ▸ BW.out.setCell (p := ⟨b, 5, none⟩) (show w.heap.size ≤ b by omega) _)
    have U := Lib.hid (show Und (b + 1) w7 _ _ _ _ _ _ _ _ _ _ _ _ from hw ▸ U.out.put (Nat.lt_succ_self _))
    have SL := Nat.le_trans SL (show w6.heap.size ≤ w7.heap.size from hw ▸ (by simp))
    rw [hw]
    clear hw
    have U := Lib.hid (show Und (b + 1) w7 d [] [] [] (kpC levels cls) levels _ _ _ _ _ [] from by rw [EKL.out]; exact U.out)
    go_wp2
    clear hl0
    obtain ⟨dv, hdv⟩ : ∃ dv, decide (0 < levels.length) = dv := ⟨_, rfl⟩
    try rw [hdv]
    clear hdv
    have W0 := Lib.hid (show w.heap.size ≤ b + 1 by omega)
    have B0' := Lib.hid (show w.heap.size ≤ b by omega)
    go_loopw [6] (fun i wr => ∃ (k : Nat) (vi vn : Value), k ≤ m ∧ i = .int .i64 k ∧ Below w.heap.size w wr ∧ wr.heap[w.heap.size]? = some (.cells #[.int .i64 kk, .slice ai n ci, .slice ap parts.length cp, .slice an nn cn, .slice ac cls.length cc, .slice al levels.length cl, .int .i64 code, .int .i64 env] 31 (0, 0)) ∧ wr.heap[w.heap.size + 1]? = some (.cells #[.int .i64 0, .slice none 0 0, .slice none 0 0, .slice none 0 0, .slice none 0 0, .slice none 0 0, .int .i64 0, .int .i64 0] 31 (0, 0)) ∧ wr.heap[b]? = some (.cells #[.int .i64 kk, vi, .slice none 0 0, vn, .slice sc nc qc, .slice sl nl ql, .int .i64 0, .int .i64 0] 31 (0, 0)) ∧ Und (b + 1) wr d (pkL noI items (idx.take k)) [] (pkL ⟨#[]⟩ names (idx.take k)) (kpC levels cls) levels vi (.slice none 0 0) vn (.slice sc nc qc) (.slice sl nl ql) []) (fun i _ => m - (intOf i).toNat)
    case atStart => exact ⟨0, .slice none 0 0, .slice none 0 0, Nat.zero_le _, rfl, BW.out, KA.out, KR.out, KB.out, by rw [pkT_zero, pkT_zero]; exact U.out⟩
    case round =>
      obtain ⟨k, vi, vn, hk, rfl, hbw', hka, hkr, hkb, hu⟩ := hrel
      have BW := Lib.hid hbw'
      have KA := Lib.hid hka
      have KR := Lib.hid hkr
      have KB := Lib.hid hkb
      have U := Lib.hid hu
      clear hbw' hka hkr hkb hu
      by_cases hlt : k < m
      · obtain ⟨bi, oi, rfl, hbi, cx⟩ := (SA.out.below (BW.out.mono hB)) k hlt
        have hq := IN.out k hlt
        have NXI := Lib.hid (PI.out k (by omega) hlt)
        replace cx := (show wr.cell? ⟨bi, oi + k, none⟩ = some (.int .i64 (((idx.getD k 0 : Nat) : Int) + 1)) from cx)
        have PNk := Lib.hid (fun h => PN.out k h hlt)
        obtain ⟨q, hq'⟩ : ∃ q, idx.getD k 0 = q := ⟨_, rfl⟩
        rw [hq'] at cx hq NXI PNk
        clear hq'
        have IY := Lib.hid (fun W => inYes (q : Int) 0 ((n : Int) - 1) W (by omega) (by omega))
        obtain ⟨ba, off, rfl, hbB, c0, c1, c2'⟩ := AI.out q w hq (Below.refl _ _)
        have c2 : w.cell? ⟨ba, off + q * 3 + 2, none⟩ = some (.string (items.getD q noI).t) := c2'
        have hbaw : ba < w.heap.size := Nat.lt_of_lt_of_le hbB hhi
        obtain ⟨x, hx⟩ : ∃ x, items.getD q noI = x := ⟨_, rfl⟩
        rw [hx] at c0 c1 c2 NXI
        clear hx c2'
        obtain ⟨a0, a1, a2, a3, a4, a5, a6, a7⟩ := vec8 KA.out
        go_wp2_with fail
        with_reducible refine (LE.out _).mono ?_
        rintro e wl ⟨rfl, b'⟩
        have BW := Lib.hid (below_then BW.out b')
        have KA := Lib.hid (blk_below b' KA.out)
        have KR := Lib.hid (blk_below b' KR.out)
        have KB := Lib.hid (blk_below b' KB.out)
        have U := Lib.hid (U.out.below b')
        clear b' a0 a1 a2 a3 a4 a5 a6 a7
        go_wp2_with fail
        with_reducible refine (IY.out _).mono ?_
        rintro e w' ⟨rfl, rfl⟩
        obtain ⟨a0, a1, a2, a3, a4, a5, a6, a7⟩ := vec8 KA.out
        have hbl := (Array.getElem?_eq_some_iff.1 KB.out).1
        have hKR := (Array.getElem?_eq_some_iff.1 KR.out).1
        have KRW := KR
        have UW := U
        by_cases h0 : nn = 0
        · have e0 := P0.out h0 (k + 1)
          have e1 := P0.out h0 k
          have hn0 : (nn : Int) ≤ 0 := by omega
          have H0 := Lib.hid h0
          clear h0
          have LN := Lib.hid (show (pkL noI items (idx.take k)).length ≤ 1048576 by have := LI.out k; omega)
          have FAR := Lib.hid (fun g hg => (U.out.i.lt g hg).1)
          have H := Lib.hid (show HeldC w wl ([(w.heap.size, 31, #[.int .i64 kk, .slice (some ⟨ba, off, none⟩) n ci, .slice ap parts.length cp, .slice an nn cn, .slice ac cls.length cc, .slice al levels.length cl, .int .i64 code, .int .i64 env]), (b, 31, #[.int .i64 kk, vi, .slice none 0 0, vn, .slice sc nc qc, .slice sl nl ql, .int .i64 0, .int .i64 0])]) from heldC_cons (heldC_cons ⟨BW.out, (fun _ h => by cases h)⟩ KB.out) KA.out)
          go_upto_region 15 with (fail)
          clear a0 a1 a2 a3 a4 a5 a6 a7
          refine run_region (ops := (opsOf Tryz.f22 15)) (S := fun w' => HeldC w w' ([(w.heap.size, 31, #[.int .i64 kk, .slice (some ⟨ba, off, none⟩) n ci, .slice ap parts.length cp, .slice an nn cn, .slice ac cls.length cc, .slice al levels.length cl, .int .i64 code, .int .i64 env]), (b, 31, #[.int .i64 kk, vi, (.slice none 0 0), vn, .slice sc nc qc, .slice sl nl ql, .int .i64 0, .int .i64 0])])) [(0, true), (1, true), (2, true), (3, true), (4, true), (5, true), (6, true), (7, false), (8, false), (9, true), (10, false)] (by kernel_rfl) (by kernel_rfl) (by kernel_rfl) (by kernel_rfl) (by kernel_rfl) (fun _ _ _ _ _ h => h) (heldC_drew H.out) ?_
          have H := Lib.hid (heldC_drew H.out)
          have U := Lib.hid (U.out.keep (below_drew' (Below.refl _ _)))
          refine runC_partV (b := b) (by kernel_rfl) (show opAt (opsOf Tryz.f22 15) 0 = some (some 69, .fieldAddr 31 (.tmp 5) 1, none) from by kernel_rfl) (by kernel_rfl) (by kernel_rfl) (by kernel_rfl) ?_
          refine runC_cell (b := b) (j := 1) (v := vi) load_its (show opAt (opsOf Tryz.f22 15) 1 = some (some 70, .load 28 (.tmp 69), none) from by kernel_rfl) (by kernel_rfl) (by kernel_rfl) (by kernel_rfl) (List.Mem.tail _ (List.Mem.head _)) rfl ?_
          refine runC_partV (b := w.heap.size) (by kernel_rfl) (show opAt (opsOf Tryz.f22 15) 2 = some (some 71, .fieldAddr 31 (.tmp 2) 1, none) from by kernel_rfl) (by kernel_rfl) (by kernel_rfl) (by kernel_rfl) ?_
          refine runC_cell (b := w.heap.size) (j := 1) (v := .slice (some ⟨ba, off, none⟩) n ci) load_its (show opAt (opsOf Tryz.f22 15) 3 = some (some 72, .load 28 (.tmp 71), none) from by kernel_rfl) (by kernel_rfl) (by kernel_rfl) (by kernel_rfl) (List.Mem.head _) rfl ?_
          refine run_mov (v := .int .i64 ((q : Int))) (show opAt (opsOf Tryz.f22 15) 4 = some (some 73, .move (.tmp 7), none) from by kernel_rfl) (by kernel_rfl) (by kernel_rfl) (by kernel_rfl) ?_
          refine run_idx3 (n := n) (c := ci) (b := ba) (off := off) (k := q) (show opAt (opsOf Tryz.f22 15) 5 = some (some 74, .indexAddr 28 (.tmp 72) (.tmp 73), none) from by kernel_rfl) (by kernel_rfl) (by kernel_rfl) (by kernel_rfl) (by kernel_rfl) hq ?_
          refine runC_oldI (b := ba) (j := off + q * 3) (z := x) (show opAt (opsOf Tryz.f22 15) 6 = some (some 75, .load 66 (.tmp 74), none) from by kernel_rfl) (by kernel_rfl) (by kernel_rfl) (by kernel_rfl) hbaw c0 c1 c2 ?_
          refine tail_its3 x (show opAt (opsOf Tryz.f22 15) 7 = some (some 76, .buildSlice 28 1 #[(0, (.tmp 75))], none) from by kernel_rfl) (by kernel_rfl) (by kernel_rfl) (show opAt (opsOf Tryz.f22 15) 8 = some (some 77, .call { callee := .builtin .append, args := [(.tmp 70), (.tmp 76)].toArray, argTypes := [28, 28].toArray }, none) from by kernel_rfl) (by kernel_rfl) (fun _ => by kernel_rfl) (show opAt (opsOf Tryz.f22 15) 9 = some (some 78, .fieldAddr 31 (.tmp 5) 1, none) from by kernel_rfl) (by kernel_rfl) (by kernel_rfl) (fun _ _ => by kernel_rfl) (show opAt (opsOf Tryz.f22 15) 10 = some (none, .store 28 (.tmp 78) (.tmp 77), none) from by kernel_rfl) (by kernel_rfl) (by kernel_rfl) H.out U.out.i LN.out (Nat.succ_le_of_lt (Array.getElem?_eq_some_iff.1 (heldC_at H.out (List.Mem.tail _ (List.Mem.head _)))).1) W0.out (List.Mem.tail _ (List.Mem.head _)) rfl (Nat.lt_succ_self _) B0'.out (fun q hq => far_two FAR.out (Nat.lt_succ_of_lt hbw) (Nat.lt_succ_self _) hq) ?_
          rintro v' w2 ⟨sa, sn, sc2, rfl⟩ hK hO hB hZ hR hG
          simp only [putAll, Act.put, List.setIfInBounds_toArray, List.set_cons_zero, List.set_cons_succ]
          have KA1 := heldC_at H.out (List.Mem.head _)
          have KR1 := heldC_at H.out (List.Mem.head _)
          have hwa := (Array.getElem?_eq_some_iff.1 KA1).1
          have U := Lib.hid (U.out.setI hO hR (fun g hlo hg hne => hG g hg (by omega) hne) hZ)
          have KA := Lib.hid (show w2.heap[w.heap.size]? = some (.cells #[.int .i64 kk, .slice (some ⟨ba, off, none⟩) n ci, .slice ap parts.length cp, .slice an nn cn, .slice ac cls.length cc, .slice al levels.length cl, .int .i64 code, .int .i64 env] 31 (0, 0)) from (hG _ hwa (by omega) (fun e => by have := FAR.out _ e; omega)).trans KA1)
          have KB := Lib.hid (show w2.heap[b]? = some (.cells #[.int .i64 kk, .slice sa sn sc2, .slice none 0 0, vn, .slice sc nc qc, .slice sl nl ql, .int .i64 0, .int .i64 0] 31 (0, 0)) from hK)
          have BW := Lib.hid hB
          have KR := Lib.hid (show w2.heap[w.heap.size + 1]? = some (.cells #[.int .i64 0, .slice none 0 0, .slice none 0 0, .slice none 0 0, .slice none 0 0, .slice none 0 0, .int .i64 0, .int .i64 0] 31 (0, 0)) from (hG _ hKR (by omega) (fun e => by have := FAR.out _ e; omega)).trans KRW.out)
          clear hK hO hB hR hG hZ H FAR LN KA1 KR1 hwa
          obtain ⟨a0, a1, a2, a3, a4, a5, a6, a7⟩ := vec8 KA.out
          go_wp2
          go_roundw
          case rel => first | exact ⟨k + 1, _, vn, by omega, by go_num, BW.out, KA.out, KR.out, KB.out, by rw [NXI.out, e0]; rw [e1] at U; exact U.out⟩ | ((repeat apply Exists.intro); exact ⟨⟨k + 1, _, vn, by omega, by go_num, BW.out, KA.out, KR.out, KB.out, by rw [NXI.out, e0]; rw [e1] at U; exact U.out⟩, rfl⟩)
          case measure => simp [intOf]; omega
        · have hqn : q < nn := by have := hnm h0; omega
          have hn0 : 0 < (nn : Int) := by omega
          have NXN := Lib.hid (PNk.out h0)
          obtain ⟨bn, offn, rfl, hbN, cn0⟩ := AN.out q w hqn (Below.refl _ _)
          have hbnw : bn < w.heap.size := Nat.lt_of_lt_of_le hbN hhi
          obtain ⟨s, hs⟩ : ∃ s, names.getD q ⟨#[]⟩ = s := ⟨_, rfl⟩
          rw [hs] at cn0 NXN
          clear hs
          have LN := Lib.hid (show (pkL noI items (idx.take k)).length ≤ 1048576 by have := LI.out k; omega)
          have FAR := Lib.hid (fun g hg => (U.out.i.lt g hg).1)
          have H := Lib.hid (show HeldC w wl ([(w.heap.size, 31, #[.int .i64 kk, .slice (some ⟨ba, off, none⟩) n ci, .slice ap parts.length cp, .slice (some ⟨bn, offn, none⟩) nn cn, .slice ac cls.length cc, .slice al levels.length cl, .int .i64 code, .int .i64 env]), (b, 31, #[.int .i64 kk, vi, .slice none 0 0, vn, .slice sc nc qc, .slice sl nl ql, .int .i64 0, .int .i64 0])]) from heldC_cons (heldC_cons ⟨BW.out, (fun _ h => by cases h)⟩ KB.out) KA.out)
          go_upto_region 15 with (fail)
          clear a0 a1 a2 a3 a4 a5 a6 a7
          refine run_region (ops := (opsOf Tryz.f22 15)) (S := fun w' => HeldC w w' ([(w.heap.size, 31, #[.int .i64 kk, .slice (some ⟨ba, off, none⟩) n ci, .slice ap parts.length cp, .slice (some ⟨bn, offn, none⟩) nn cn, .slice ac cls.length cc, .slice al levels.length cl, .int .i64 code, .int .i64 env]), (b, 31, #[.int .i64 kk, vi, (.slice none 0 0), vn, .slice sc nc qc, .slice sl nl ql, .int .i64 0, .int .i64 0])])) [(0, true), (1, true), (2, true), (3, true), (4, true), (5, true), (6, true), (7, false), (8, false), (9, true), (10, false)] (by kernel_rfl) (by kernel_rfl) (by kernel_rfl) (by kernel_rfl) (by kernel_rfl) (fun _ _ _ _ _ h => h) (heldC_drew H.out) ?_
          have H := Lib.hid (heldC_drew H.out)
          have U := Lib.hid (U.out.keep (below_drew' (Below.refl _ _)))
          refine runC_partV (b := b) (by kernel_rfl) (show opAt (opsOf Tryz.f22 15) 0 = some (some 69, .fieldAddr 31 (.tmp 5) 1, none) from by kernel_rfl) (by kernel_rfl) (by kernel_rfl) (by kernel_rfl) ?_
          refine runC_cell (b := b) (j := 1) (v := vi) load_its (show opAt (opsOf Tryz.f22 15) 1 = some (some 70, .load 28 (.tmp 69), none) from by kernel_rfl) (by kernel_rfl) (by kernel_rfl) (by kernel_rfl) (List.Mem.tail _ (List.Mem.head _)) rfl ?_
          refine runC_partV (b := w.heap.size) (by kernel_rfl) (show opAt (opsOf Tryz.f22 15) 2 = some (some 71, .fieldAddr 31 (.tmp 2) 1, none) from by kernel_rfl) (by kernel_rfl) (by kernel_rfl) (by kernel_rfl) ?_
          refine runC_cell (b := w.heap.size) (j := 1) (v := .slice (some ⟨ba, off, none⟩) n ci) load_its (show opAt (opsOf Tryz.f22 15) 3 = some (some 72, .load 28 (.tmp 71), none) from by kernel_rfl) (by kernel_rfl) (by kernel_rfl) (by kernel_rfl) (List.Mem.head _) rfl ?_
          refine run_mov (v := .int .i64 ((q : Int))) (show opAt (opsOf Tryz.f22 15) 4 = some (some 73, .move (.tmp 7), none) from by kernel_rfl) (by kernel_rfl) (by kernel_rfl) (by kernel_rfl) ?_
          refine run_idx3 (n := n) (c := ci) (b := ba) (off := off) (k := q) (show opAt (opsOf Tryz.f22 15) 5 = some (some 74, .indexAddr 28 (.tmp 72) (.tmp 73), none) from by kernel_rfl) (by kernel_rfl) (by kernel_rfl) (by kernel_rfl) (by kernel_rfl) hq ?_
          refine runC_oldI (b := ba) (j := off + q * 3) (z := x) (show opAt (opsOf Tryz.f22 15) 6 = some (some 75, .load 66 (.tmp 74), none) from by kernel_rfl) (by kernel_rfl) (by kernel_rfl) (by kernel_rfl) hbaw c0 c1 c2 ?_
          refine tail_its3 x (show opAt (opsOf Tryz.f22 15) 7 = some (some 76, .buildSlice 28 1 #[(0, (.tmp 75))], none) from by kernel_rfl) (by kernel_rfl) (by kernel_rfl) (show opAt (opsOf Tryz.f22 15) 8 = some (some 77, .call { callee := .builtin .append, args := [(.tmp 70), (.tmp 76)].toArray, argTypes := [28, 28].toArray }, none) from by kernel_rfl) (by kernel_rfl) (fun _ => by kernel_rfl) (show opAt (opsOf Tryz.f22 15) 9 = some (some 78, .fieldAddr 31 (.tmp 5) 1, none) from by kernel_rfl) (by kernel_rfl) (by kernel_rfl) (fun _ _ => by kernel_rfl) (show opAt (opsOf Tryz.f22 15) 10 = some (none, .store 28 (.tmp 78) (.tmp 77), none) from by kernel_rfl) (by kernel_rfl) (by kernel_rfl) H.out U.out.i LN.out (Nat.succ_le_of_lt (Array.getElem?_eq_some_iff.1 (heldC_at H.out (List.Mem.tail _ (List.Mem.head _)))).1) W0.out (List.Mem.tail _ (List.Mem.head _)) rfl (Nat.lt_succ_self _) B0'.out (fun q hq => far_two FAR.out (Nat.lt_succ_of_lt hbw) (Nat.lt_succ_self _) hq) ?_
          rintro v' w2 ⟨sa, sn, sc2, rfl⟩ hK hO hB hZ hR hG
          simp only [putAll, Act.put, List.setIfInBounds_toArray, List.set_cons_zero, List.set_cons_succ]
          have KA1 := heldC_at H.out (List.Mem.head _)
          have KR1 := heldC_at H.out (List.Mem.head _)
          have hwa := (Array.getElem?_eq_some_iff.1 KA1).1
          have U := Lib.hid (U.out.setI hO hR (fun g hlo hg hne => hG g hg (by omega) hne) hZ)
          have KA := Lib.hid (show w2.heap[w.heap.size]? = some (.cells #[.int .i64 kk, .slice (some ⟨ba, off, none⟩) n ci, .slice ap parts.length cp, .slice (some ⟨bn, offn, none⟩) nn cn, .slice ac cls.length cc, .slice al levels.length cl, .int .i64 code, .int .i64 env] 31 (0, 0)) from (hG _ hwa (by omega) (fun e => by have := FAR.out _ e; omega)).trans KA1)
          have KB := Lib.hid (show w2.heap[b]? = some (.cells #[.int .i64 kk, .slice sa sn sc2, .slice none 0 0, vn, .slice sc nc qc, .slice sl nl ql, .int .i64 0, .int .i64 0] 31 (0, 0)) from hK)
          have BW := Lib.hid hB
          have KR := Lib.hid (show w2.heap[w.heap.size + 1]? = some (.cells #[.int .i64 0, .slice none 0 0, .slice none 0 0, .slice none 0 0, .slice none 0 0, .slice none 0 0, .int .i64 0, .int .i64 0] 31 (0, 0)) from (hG _ hKR (by omega) (fun e => by have := FAR.out _ e; omega)).trans KRW.out)
          clear hK hO hB hR hG hZ H FAR LN KA1 KR1 hwa
          obtain ⟨a0, a1, a2, a3, a4, a5, a6, a7⟩ := vec8 KA.out
          have hKR := (Array.getElem?_eq_some_iff.1 KR.out).1
          have KRW := KR
          have LN := Lib.hid (show (pkL ⟨#[]⟩ names (idx.take k)).length ≤ 1048576 by have := LM.out k; omega)
          have FAR := Lib.hid (fun g hg => (U.out.n.lt g hg).1)
          have H := Lib.hid (show HeldC w w2 ([(w.heap.size, 31, #[.int .i64 kk, .slice (some ⟨ba, off, none⟩) n ci, .slice ap parts.length cp, .slice (some ⟨bn, offn, none⟩) nn cn, .slice ac cls.length cc, .slice al levels.length cl, .int .i64 code, .int .i64 env]), (b, 31, #[.int .i64 kk, .slice sa sn sc2, .slice none 0 0, vn, .slice sc nc qc, .slice sl nl ql, .int .i64 0, .int .i64 0])]) from heldC_cons (heldC_cons ⟨BW.out, (fun _ h => by cases h)⟩ KB.out) KA.out)
          go_upto_region 18 with (fail)
          clear a0 a1 a2 a3 a4 a5 a6 a7
          refine run_region (ops := (opsOf Tryz.f22 18)) (S := fun w' => HeldC w w' ([(w.heap.size, 31, #[.int .i64 kk, .slice (some ⟨ba, off, none⟩) n ci, .slice ap parts.length cp, .slice (some ⟨bn, offn, none⟩) nn cn, .slice ac cls.length cc, .slice al levels.length cl, .int .i64 code, .int .i64 env]), (b, 31, #[.int .i64 kk, (.slice sa sn sc2), (.slice none 0 0), vn, .slice sc nc qc, .slice sl nl ql, .int .i64 0, .int .i64 0])])) [(0, true), (1, true), (2, true), (3, true), (4, true), (5, true), (6, true), (7, false), (8, false), (9, true), (10, false)] (by kernel_rfl) (by kernel_rfl) (by kernel_rfl) (by kernel_rfl) (by kernel_rfl) (fun _ _ _ _ _ h => h) (heldC_drew H.out) ?_
          have H := Lib.hid (heldC_drew H.out)
          have U := Lib.hid (U.out.keep (below_drew' (Below.refl _ _)))
          refine runC_partV (b := b) (by kernel_rfl) (show opAt (opsOf Tryz.f22 18) 0 = some (some 92, .fieldAddr 31 (.tmp 5) 3, none) from by kernel_rfl) (by kernel_rfl) (by kernel_rfl) (by kernel_rfl) ?_
          refine runC_cell (b := b) (j := 3) (v := vn) load_strs (show opAt (opsOf Tryz.f22 18) 1 = some (some 93, .load 24 (.tmp 92), none) from by kernel_rfl) (by kernel_rfl) (by kernel_rfl) (by kernel_rfl) (List.Mem.tail _ (List.Mem.head _)) rfl ?_
          refine runC_partV (b := w.heap.size) (by kernel_rfl) (show opAt (opsOf Tryz.f22 18) 2 = some (some 94, .fieldAddr 31 (.tmp 2) 3, none) from by kernel_rfl) (by kernel_rfl) (by kernel_rfl) (by kernel_rfl) ?_
          refine runC_cell (b := w.heap.size) (j := 3) (v := .slice (some ⟨bn, offn, none⟩) nn cn) load_strs (show opAt (opsOf Tryz.f22 18) 3 = some (some 95, .load 24 (.tmp 94), none) from by kernel_rfl) (by kernel_rfl) (by kernel_rfl) (by kernel_rfl) (List.Mem.head _) rfl ?_
          refine run_mov (v := .int .i64 ((q : Int))) (show opAt (opsOf Tryz.f22 18) 4 = some (some 96, .move (.tmp 7), none) from by kernel_rfl) (by kernel_rfl) (by kernel_rfl) (by kernel_rfl) ?_
          refine run_idx1 (n := nn) (c := cn) (b := bn) (off := offn) (k := q) (show opAt (opsOf Tryz.f22 18) 5 = some (some 97, .indexAddr 24 (.tmp 95) (.tmp 96), none) from by kernel_rfl) (by kernel_rfl) (by kernel_rfl) (by kernel_rfl) (by kernel_rfl) hqn Tryz.underlying24 (by kernel_rfl) infoStr ?_
          refine runC_old (b := bn) (j := offn + q) (v := .string s) load_text (show opAt (opsOf Tryz.f22 18) 6 = some (some 98, .load 9 (.tmp 97), none) from by kernel_rfl) (by kernel_rfl) (by kernel_rfl) (by kernel_rfl) hbnw cn0 ?_
          refine tail_txs3 s (show opAt (opsOf Tryz.f22 18) 7 = some (some 99, .buildSlice 24 1 #[(0, (.tmp 98))], none) from by kernel_rfl) (by kernel_rfl) (by kernel_rfl) (show opAt (opsOf Tryz.f22 18) 8 = some (some 100, .call { callee := .builtin .append, args := [(.tmp 93), (.tmp 99)].toArray, argTypes := [24, 24].toArray }, none) from by kernel_rfl) (by kernel_rfl) (fun _ => by kernel_rfl) (show opAt (opsOf Tryz.f22 18) 9 = some (some 101, .fieldAddr 31 (.tmp 5) 3, none) from by kernel_rfl) (by kernel_rfl) (by kernel_rfl) (fun _ _ => by kernel_rfl) (show opAt (opsOf Tryz.f22 18) 10 = some (none, .store 24 (.tmp 101) (.tmp 100), none) from by kernel_rfl) (by kernel_rfl) (by kernel_rfl) H.out U.out.n LN.out (Nat.succ_le_of_lt (Array.getElem?_eq_some_iff.1 (heldC_at H.out (List.Mem.tail _ (List.Mem.head _)))).1) W0.out (List.Mem.tail _ (List.Mem.head _)) rfl (Nat.lt_succ_self _) B0'.out (fun q hq => far_two FAR.out (Nat.lt_succ_of_lt hbw) (Nat.lt_succ_self _) hq) ?_
          rintro v' w3 ⟨sa3, sn3, sc3, rfl⟩ hK hO hB hZ hR hG
          simp only [putAll, Act.put, List.setIfInBounds_toArray, List.set_cons_zero, List.set_cons_succ]
          have KA1 := heldC_at H.out (List.Mem.head _)
          have KR1 := heldC_at H.out (List.Mem.head _)
          have hwa := (Array.getElem?_eq_some_iff.1 KA1).1
          have U := Lib.hid (U.out.setN hO hR (fun g hlo hg hne => hG g hg (by omega) hne) hZ)
          have KA := Lib.hid (show w3.heap[w.heap.size]? = some (.cells #[.int .i64 kk, .slice (some ⟨ba, off, none⟩) n ci, .slice ap parts.length cp, .slice (some ⟨bn, offn, none⟩) nn cn, .slice ac cls.length cc, .slice al levels.length cl, .int .i64 code, .int .i64 env] 31 (0, 0)) from (hG _ hwa (by omega) (fun e => by have := FAR.out _ e; omega)).trans KA1)
          have KB := Lib.hid (show w3.heap[b]? = some (.cells #[.int .i64 kk, .slice sa sn sc2, .slice none 0 0, .slice sa3 sn3 sc3, .slice sc nc qc, .slice sl nl ql, .int .i64 0, .int .i64 0] 31 (0, 0)) from hK)
          have BW := Lib.hid hB
          have KR := Lib.hid (show w3.heap[w.heap.size + 1]? = some (.cells #[.int .i64 0, .slice none 0 0, .slice none 0 0, .slice none 0 0, .slice none 0 0, .slice none 0 0, .int .i64 0, .int .i64 0] 31 (0, 0)) from (hG _ hKR (by omega) (fun e => by have := FAR.out _ e; omega)).trans KRW.out)
          clear hK hO hB hR hG hZ H FAR LN KA1 KR1 hwa
          go_wp2
          go_roundw
          case rel => first | exact ⟨k + 1, _, _, by omega, by go_num, BW.out, KA.out, KR.out, KB.out, by rw [NXI.out, NXN.out]; exact U.out⟩ | ((repeat apply Exists.intro); exact ⟨⟨k + 1, _, _, by omega, by go_num, BW.out, KA.out, KR.out, KB.out, by rw [NXI.out, NXN.out]; exact U.out⟩, rfl⟩)
          case measure => simp [intOf]; omega
      · obtain rfl : k = m := by omega
        obtain ⟨si, qi, rfl⟩ := row_form U.out.i
        obtain ⟨sn, qn, Fn, rfl, hot, _, hrt, _⟩ := txs_of_row U.out.n
        have CLN := Lib.hid (fun (W : World) (hb : Below wr.heap.size wr W) => specCleanN kk 0 0 si none sn sc sl (pkL noI items (idx.take k)).length qi 0 0 qn nc qc nl ql (pkL ⟨#[]⟩ names (idx.take k)) (b + 1) wr.heap.size W ((hot.at_ hrt).below hb (Nat.le_refl _)) hb.size (Nat.le_trans (LM.out k) hn))
        clear hot hrt
        obtain ⟨k0, k1, k2, k3, k4, k5, k6, k7⟩ := vec8 KB.out
        have hKR := (Array.getElem?_eq_some_iff.1 KR.out).1
        go_wp2_with fail
        refine (CLN.out _ (Below.refl _ _)).mono ?_
        rintro e w5 ⟨b', hor⟩
        have BW := Lib.hid (below_then BW.out b')
        have KR := Lib.hid (blk_below b' KR.out)
        have O := Lib.hid ((U.out.below b').own kk)
        have hL1 : w.heap.size + 1 < b + 1 := by omega
        clear b' k0 k1 k2 k3 k4 k5 k6 k7
        obtain ⟨z0, z1, z2, z3, z4, z5, z6, z7⟩ := vec8 KR.out
        obtain ⟨f0, f1, f2, f3, f4, f5, f6, f7⟩ := free8 KR.out
        rcases hor with ⟨hex, rfl⟩ | ⟨hem, g, hg, rfl⟩
        · have EN := Lib.hid (clnN_yes (l := pkL ⟨#[]⟩ names (idx.take k)) (by obtain ⟨i, h1, h2⟩ := hex; exact ⟨i, h1, fun h => h2 (empty_of_size h)⟩))
          rw [EN.out] at EV
          rw [← EV.out] at O
          clear EV EN hex
          go_wp2
          exact vec_end rfl rfl rfl KR.out ⟨_, rfl, (O.out.put8 hL1 _ _ _ _ _ _ _ _).wide (by omega) (by rw [put8_size]; exact Nat.le_refl _), put8_below BW.out (Nat.le_succ _)⟩
        · have EN := Lib.hid (clnN_no (l := pkL ⟨#[]⟩ names (idx.take k)) (fun ⟨i, h1, h2⟩ => h2 (show (txtS _ i).size = 0 by rw [hem i h1]; rfl)))
          rw [EN.out] at EV
          have O := Lib.hid (O.out.noNames (some ⟨g, 0, none⟩) 0)
          rw [← EV.out] at O
          clear EV EN hem hg
          go_wp2
          exact vec_end rfl rfl rfl KR.out ⟨_, rfl, (O.out.put8 hL1 _ _ _ _ _ _ _ _).wide (by omega) (by rw [put8_size]; exact Nat.le_refl _), put8_below BW.out (Nat.le_succ _)⟩
end Go.Proofs.YtpekdmocgjjhnaaGreat
