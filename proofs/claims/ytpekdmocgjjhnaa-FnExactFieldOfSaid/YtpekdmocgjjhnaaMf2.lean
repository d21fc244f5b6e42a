/- FieldOf as data. -/
import Derived.Test.YtpekdmocgjjhnaaRows
import Derived.Test.YtpekdmocgjjhnaaMf1
import Derived.Test.YtpekdmocgjjhnaaVecCnt
import Derived.Test.YtpekdmocgjjhnaaVecStr
import Derived.WalkKit
import Derived.OwnWalk
import Derived.Deep.DeepCutAuto
import Derived.Lib.Hide
import Derived.Maps.AppendAt
import Derived.Deep.MidRow
namespace Go.Proofs.Ytpekdmocgjjhnaa
open Go.RowKit
set_option maxRecDepth 100000
set_option linter.unusedVariables false

def FldK (v : Vec) : Prop := kindV v = 0 ∨ kindV v = 4
/-- The part at a place, or NULL. -/
def partAt (parts : List Vec) (z : Int) : Vec := if z < 0 then noV else parts.getD z.toNat noV
noncomputable def fldV (s : ByteArray) (v : Vec) : Vec := bif bB (ValidV v ∧ FldK v) then (match v with | .mk _ _ parts names _ _ _ _ => partAt parts (fldZ s (fun i => names.getD i ⟨#[]⟩) names.length)) else noV
noncomputable def fldS (v : Vec) : ByteArray := bif bB (ValidV v) then (bif bB (FldK v) then ⟨#[]⟩ else nltB) else badB
theorem fld_bad {s : ByteArray} {v : Vec} (h : ¬ ValidV v) : fldV s v = noV ∧ fldS v = badB := by unfold fldV fldS; rw [bB_no h, bB_no (fun e => h e.1)]; exact ⟨rfl, rfl⟩
theorem fld_kind {s : ByteArray} {v : Vec} (h : ValidV v) (h2 : ¬ FldK v) : fldV s v = noV ∧ fldS v = nltB := by unfold fldV fldS; rw [bB_yes h, bB_no h2, bB_no (fun e => h2 e.2)]; exact ⟨rfl, rfl⟩
theorem fld_yes {s : ByteArray} {kk : Int} {items : List It} {parts : List Vec} {names cls levels : List ByteArray} {code env : Int} (h : ValidV (.mk kk items parts names cls levels code env)) (h2 : FldK (.mk kk items parts names cls levels code env)) : fldV s (.mk kk items parts names cls levels code env) = partAt parts (fldZ s (fun i => names.getD i ⟨#[]⟩) names.length) ∧ fldS (.mk kk items parts names cls levels code env) = ⟨#[]⟩ := by
  unfold fldV fldS; rw [bB_yes h, bB_yes h2, bB_yes ⟨h, h2⟩]; exact ⟨rfl, rfl⟩
theorem texts_strs {lo hi : Nat} {w : World} {a : Option Addr} {l : List ByteArray} (h : TextsAt lo hi w a l) : StrsAt hi w a l.length (fun i => l.getD i ⟨#[]⟩) := fun i hi' => by
  obtain ⟨b, off, e, _, h1, h2⟩ := h i (l.getD i ⟨#[]⟩) (by simp [List.getD_eq_getElem?_getD, hi'])
  exact ⟨b, off, e, h1, h2⟩
/-- A place that was found is one of a part. -/
theorem fld_part {s : ByteArray} {kk : Int} {items : List It} {parts : List Vec} {names cls levels : List ByteArray} {code env : Int} (h : ValidV (.mk kk items parts names cls levels code env)) (h2 : FldK (.mk kk items parts names cls levels code env)) (hz : ¬ fldZ s (fun i => names.getD i ⟨#[]⟩) names.length < 0) : kk = 4 ∧ ∃ j : Nat, fldZ s (fun i => names.getD i ⟨#[]⟩) names.length = j ∧ j < parts.length := by
  have hf : FlatOk kk items parts.length names cls levels code env := h.1.flat
  have hl := (fldZ_in s (fun i => names.getD i ⟨#[]⟩) names.length).2
  have h3 : kk = 0 ∨ kk = 4 := h2
  have h4 := hf.h_names
  unfold lenV at h4
  rcases h3 with rfl | rfl
  · have := (hf.h_null rfl).1
    rw [if_neg (by decide)] at h4
    omega
  · have := hf.h_list rfl
    rw [if_neg (by decide)] at h4
    exact ⟨rfl, (fldZ s (fun i => names.getD i ⟨#[]⟩) names.length).toNat, by omega, by omega⟩
theorem partAt_no {parts : List Vec} {z : Int} (h : z < 0) : partAt parts z = noV := by unfold partAt; rw [if_pos h]
theorem partAt_yes {parts : List Vec} {j : Nat} : partAt parts (j : Int) = parts.getD j noV := by
  unfold partAt; rw [if_neg (by omega)]; rfl
end Go.Proofs.Ytpekdmocgjjhnaa

/- elementAt of a list. -/
namespace Go.Proofs.Ytpekdmocgjjhnaa
open Go.RowKit
set_option maxRecDepth 100000
set_option linter.unusedVariables false

set_option maxHeartbeats 4000000 in
theorem implElemL (d : Nat) (items : List It) (parts : List Vec) (names cls levels : List ByteArray) (code env : Int) (ai ap an ac al : Option Addr) (ci cp cn cc cl lo hi : Nat) (w : World) (hP : VecsAt lo hi w d ap parts) (hhi : hi ≤ w.heap.size) (j : Nat) (hj : j < parts.length) (hsm : Small d (parts.getD j noV)) (lp : parts.length ≤ 1048576) :
    Calls Try.prog 31 #[.agg #[.int .i64 4, .slice ai items.length ci, .slice ap parts.length cp, .slice an names.length cn, .slice ac cls.length cc, .slice al levels.length cl, .int .i64 code, .int .i64 env], .int .i64 (j : Int)] w (ResV d (parts.getD j noV) w) := by
  have AP := Lib.hid (fun (W : World) (hb : Below w.heap.size w W) => (hP.below hb hhi).at_ hj)
  have CP := Lib.hid (fun (W : World) (x : Value) (hb : Below w.heap.size w W) (hv : VecAt lo hi W d (parts.getD j noV) x) => (icvAll d).out _ x lo hi W hv (Nat.le_trans hhi hb.size) hsm)
  obtain ⟨V, hV⟩ : ∃ V, parts.getD j noV = V := ⟨_, rfl⟩
  rw [hV] at AP CP ⊢
  clear hV hP hhi hsm
  go_enter Try.func31, Try.ntmps31
  go_upto_region 2 with (fail)
  obtain ⟨w1, hw1⟩ : ∃ W, (w.alloc (.cells #[.int .i64 4, .slice ai items.length ci, .slice ap parts.length cp, .slice an names.length cn, .slice ac cls.length cc, .slice al levels.length cl, .int .i64 code, .int .i64 env] 31)).alloc (.cells #[.int .i64 0, .slice none 0 0, .slice none 0 0, .slice none 0 0, .slice none 0 0, .slice none 0 0, .int .i64 0, .int .i64 0] 31) = W := ⟨_, rfl⟩
  have hsz : (w.alloc (.cells #[.int .i64 4, .slice ai items.length ci, .slice ap parts.length cp, .slice an names.length cn, .slice ac cls.length cc, .slice al levels.length cl, .int .i64 code, .int .i64 env] 31)).heap.size = w.heap.size + 1 := by simp
  have B1 := Lib.hid (show Below w.heap.size w w1 from hw1 ▸ (below1 w _).alloc (by simp) _)
  have KA := Lib.hid (show w1.heap[w.heap.size]? = some (.cells #[.int .i64 4, .slice ai items.length ci, .slice ap parts.length cp, .slice an names.length cn, .slice ac cls.length cc, .slice al levels.length cl, .int .i64 code, .int .i64 env] 31 (0, 0)) from hw1 ▸ blk_old (blk_new w _ rfl))
  have KR := Lib.hid (show w1.heap[w.heap.size + 1]? = some (.cells #[.int .i64 0, .slice none 0 0, .slice none 0 0, .slice none 0 0, .slice none 0 0, .slice none 0 0, .int .i64 0, .int .i64 0] 31 (0, 0)) from hw1 ▸ hsz ▸ blk_new (w.alloc (.cells #[.int .i64 4, .slice ai items.length ci, .slice ap parts.length cp, .slice an names.length cn, .slice ac cls.length cc, .slice al levels.length cl, .int .i64 code, .int .i64 env] 31)) (.cells #[.int .i64 0, .slice none 0 0, .slice none 0 0, .slice none 0 0, .slice none 0 0, .slice none 0 0, .int .i64 0, .int .i64 0] 31) rfl)
  rw [hw1]
  clear hw1 hsz
  obtain ⟨k0, k1, k2, k3, k4, k5, k6, k7⟩ := vec8 KA.out
  obtain ⟨b, off, c0, c1, c2, c3, c4, c5, c6, c7, rfl, hbh, hvv, e0, e1, e2, e3, e4, e5, e6, e7⟩ := AP.out w1 B1.out
  have HV := Lib.hid hvv
  clear hvv
  go_wp2_with fail
  refine (CP.out _ _ B1.out HV.out).mono ?_
  rintro e w2 ⟨y, rfl, ho, hb⟩
  obtain ⟨yk, ya1, yn1, ym1, ya2, yn2, ym2, ya3, yn3, ym3, ya4, yn4, ym4, ya5, yn5, ym5, yc, ye, rfl⟩ := ho.agg
  have hr1 := (Array.getElem?_eq_some_iff.1 KR.out).1
  have B2 := Lib.hid (below_then B1.out hb)
  have KR := Lib.hid (blk_below hb KR.out)
  have HO := Lib.hid ho
  clear ho hb e0 e1 e2 e3 e4 e5 e6 e7 k0 k1 k2 k3 k4 k5 k6 k7
  obtain ⟨z0, z1, z2, z3, z4, z5, z6, z7⟩ := vec8 KR.out
  obtain ⟨f0, f1, f2, f3, f4, f5, f6, f7⟩ := free8 KR.out
  go_wp2
  exact vec_end rfl rfl rfl KR.out ⟨_, rfl, (HO.out.put8 (by omega) _ _ _ _ _ _ _ _).wide (by omega) (by rw [put8_size]; exact Nat.le_refl _), put8_below B2.out (Nat.le_succ _)⟩
end Go.Proofs.Ytpekdmocgjjhnaa

/- The reference's copies of vectors. -/
namespace Go.Proofs.Ytpekdmocgjjhnaa
set_option maxRecDepth 100000
open Go.RowKit
set_option linter.unusedVariables false
theorem RowV.start0 (w : World) (d : Nat) (parts : List Vec) : RowV w (w.alloc (.cells #[] 31)) d parts 0 (.slice (some ⟨w.heap.size, 0, none⟩) 0 0) :=
  ⟨⟨[], [], rfl, rfl, ⟨rfl, .inr ⟨w.heap.size, 0, #[], rfl, Nat.le_refl _, blk_new w _ rfl, Nat.le_refl _, Nat.zero_le _, rfl, rfl⟩⟩, fun i h => absurd h (Nat.not_lt_zero _), List.nodup_nil, fun b h => by cases h⟩, below1 w _⟩
set_option maxHeartbeats 4000000 in
theorem scpStep (d : Nat) (IC : SCV d) : SCP d := by
  refine ⟨fun parts a cap lo hi w hs hhi hsm hall hn => ?_⟩
  have A := Lib.hid (fun (k : Nat) (w1 : World) (hk : k < parts.length) (hb : Below w.heap.size w w1) => (hs.below hb hhi).at_ hk)
  have C := Lib.hid (fun (k : Nat) (w1 : World) (x : Value) (hk : k < parts.length) (hb : Below w.heap.size w w1) (hv : VecAt lo hi w1 d (parts.getD k noV) x) => IC.out _ x lo hi w1 hv (Nat.le_trans hhi hb.size) (hsm k hk) (hall k hk).2 (by have := (hall k hk).1.flat.parts; omega))
  have L := Lib.hid (fun (k : Nat) (w1 : World) (x : Value) (hk : k < parts.length) (hb : Below w.heap.size w w1) (hv : VecAt lo hi w1 d (parts.getD k noV) x) => show Calls Try.prog 45 #[x, .int .i64 3] w1 (fun e w' => e = .returned (.bool true) ∧ Below w1.heap.size w1 w') from ((sIsAll 3 (Nat.le_refl _)).out d _ x lo hi w1 hv (Nat.le_trans hhi hb.size) (hsm k hk)).mono (fun e w' h => by rw [bB_yes (hall k hk).1] at h; exact h))
  have FIN := Lib.hid (fun (wr : World) (v : Value) (h : RowV w wr d parts parts.length v) => h.parts)
  clear hs hsm IC hall
  obtain ⟨n, hn'⟩ : ∃ n, parts.length = n := ⟨_, rfl⟩
  have HNn := Lib.hid hn'
  rw [hn'] at hn A C L FIN ⊢
  clear hn'
  obtain ⟨i0, hi0, hz0, hz1, hz2⟩ := info_parts infoVec8
  go_enter Try.func47, Try.ntmps47
  go_wp2
  go_loopw [3, 4] (fun v i wr => ∃ k : Nat, k ≤ n ∧ i = .int .i64 k ∧ RowV w wr d parts k v) (fun _ i _ => n - (intOf i).toNat)
  case atStart => exact ⟨0, Nat.zero_le _, rfl, RowV.start0 w d parts⟩
  case round =>
    obtain ⟨k, hk, rfl, hr⟩ := hrel
    have RV := Lib.hid hr
    clear hr
    by_cases hlt : k < n
    · have h40 : k ≤ 40 := by omega
      obtain ⟨b, off, p0, p1, p2, p3, p4, p5, p6, p7, rfl, hbB, hv, c0, c1, c2, c3, c4, c5, c6, c7⟩ := A.out _ _ hlt RV.out.below
      have HV := Lib.hid hv
      clear hv
      go_wp2_with fail
      refine (L.out _ _ _ hlt RV.out.below HV.out).mono ?_
      rintro e wi ⟨rfl, hbi⟩
      have RV := Lib.hid (RV.out.keep hbi)
      clear hbi HV c0 c1 c2 c3 c4 c5 c6 c7 hbB
      obtain ⟨b', off', u0, u1, u2, u3, u4, u5, u6, u7, e', hbB, hv, c0, c1, c2, c3, c4, c5, c6, c7⟩ := A.out _ _ hlt RV.out.below
      simp only [Option.some.injEq, Addr.mk.injEq, and_true] at e'
      obtain ⟨rfl, rfl⟩ := e'
      have HV := Lib.hid hv
      clear hv
      go_wp2_with fail
      refine (C.out _ _ _ hlt RV.out.below HV.out).mono ?_
      rintro e w2 ⟨y, rfl, ho, hb⟩
      obtain ⟨yk, ya1, yn1, ym1, ya2, yn2, ym2, ya3, yn3, ym3, ya4, yn4, ym4, ya5, yn5, ym5, yc, ye, rfl⟩ := ho.agg
      have HO := Lib.hid ho
      have BW := Lib.hid hb
      obtain ⟨xs, hxs⟩ := RV.out.row
      have XS := Lib.hid hxs
      have OR := Lib.hid (ownsRow_below (ownsRow_below hxs BW.out) (below1 w2 (.cells #[.int .i64 yk, .slice ya1 yn1 ym1, .slice ya2 yn2 ym2, .slice ya3 yn3 ym3, .slice ya4 yn4 ym4, .slice ya5 yn5 ym5, .int .i64 yc, .int .i64 ye] 31)))
      have S1 := Lib.hid (show w.heap.size ≤ w2.heap.size from (below_then RV.out.below BW.out).size)
      clear ho hb hxs c0 c1 c2 c3 c4 c5 c6 c7
      go_wp2_with (at_builtin; refine wpList_append_own_at _ rfl _ _ 29 rfl w.heap.size 31 i0 _ 8 144 Try.underlying29 hi0 hz0 hz1 hz2 rfl (by decide) _ k xs rfl OR.out ⟨w2.heap.size, 0, none⟩ 1 1 [.int .i64 yk, .slice ya1 yn1 ym1, .slice ya2 yn2 ym2, .slice ya3 yn3 ym3, .slice ya4 yn4 ym4, .slice ya5 yn5 ym5, .int .i64 yc, .int .i64 ye] rfl rfl ?c1 ?c2 ?c3 ?c4 ?c5 ?_)
      case c1 =>
        intro j u hj
        have hlt : j < 8 := by have := (List.getElem?_eq_some_iff.1 hj).1; simpa using this
        rw [addr_add, Nat.zero_add]
        refine cellOf (blk_new w2 _ rfl) ?_
        rw [← hj]
        rcases (show j = 0 ∨ j = 1 ∨ j = 2 ∨ j = 3 ∨ j = 4 ∨ j = 5 ∨ j = 6 ∨ j = 7 by omega) with rfl | rfl | rfl | rfl | rfl | rfl | rfl | rfl <;> rfl
      case c2 => intro u hu; simp only [List.mem_cons, List.not_mem_nil, or_false] at hu; rcases hu with rfl | rfl | rfl | rfl | rfl | rfl | rfl | rfl <;> rfl
      case c3 => unfold maxLen; omega
      case c4 => omega
      case c5 => have := S1.out; simp; omega
      intro v' w3 hown' hgrow _ hwh
      have NX := Lib.hid (RV.out.next HO.out (by simp) BW.out hgrow (fun ys hy => ownsRow_same XS.out hy ▸ hown') (by simpa using hwh))
      clear hown' hgrow hwh
      go_wp2
      go_roundw
      case rel => exact ⟨k + 1, by omega, by go_num, NX.out⟩
      case measure => simp [intOf]; omega
    · obtain rfl : k = n := by omega
      go_wp2
      obtain ⟨F, h1, h2, h3⟩ := FIN.out _ _ RV.out
      go_ret
      exact ⟨_, F, rfl, h1, h2, h3, RV.out.below, by rw [HNn.out]; exact RV.out.row⟩
theorem scvZero : SCV 0 := ⟨fun _ _ _ _ _ h => h.elim⟩
theorem scvAll : ∀ d, SCV d
  | 0 => scvZero
  | d + 1 => scvStep d (scpStep d (scvAll d))
end Go.Proofs.Ytpekdmocgjjhnaa

/- Parts appended to a vector under way; all parts of a valid vector, however deep, are vectors. -/
namespace Go.Proofs.Ytpekdmocgjjhnaa
open Go.RowKit
set_option maxRecDepth 100000
set_option linter.unusedVariables false

theorem isV_up : ∀ (n : Nat) (v : Vec), IsV n v → IsV (n + 1) v
  | 0, v, h => ⟨h.1, fun i hi => by have := h.2; omega⟩
  | n + 1, v, h => ⟨h.1, fun i hi => isV_up n _ (h.2 i hi)⟩
theorem isV_three {n : Nat} {v : Vec} (hn : n ≤ 3) (h : IsV n v) : IsV 3 v := by
  rcases (show n = 0 ∨ n = 1 ∨ n = 2 ∨ n = 3 by omega) with rfl | rfl | rfl | rfl
  · exact isV_up _ _ (isV_up _ _ (isV_up _ _ h))
  · exact isV_up _ _ (isV_up _ _ h)
  · exact isV_up _ _ h
  · exact h
theorem allIs_of : ∀ (d n : Nat) (v : Vec), n ≤ 3 → IsV n v → AllIs d v
  | 0, _, _, _, _ => trivial
  | d + 1, 0, v, _, h => fun i hi => by have := h.2; omega
  | d + 1, n + 1, v, hn, h => fun i hi => ⟨isV_three (by omega) (h.2 i hi), allIs_of d n _ (by omega) (h.2 i hi)⟩
theorem part_is {v : Vec} (h : IsV 3 v) (d i : Nat) (hi : i < (partsV v).length) : AllIs d ((partsV v).getD i noV) ∧ (partsV ((partsV v).getD i noV)).length ≤ 41 ∧ IsV 2 ((partsV v).getD i noV) := by
  have h2 := h.2 i hi
  exact ⟨allIs_of d 2 _ (by omega) h2, by have := h2.flat.parts; omega, h2⟩
section
variable {ops : Array Oper} {Q : Exit → Act → World → Prop} {S : World → Prop} {w0 : World} {L : List (Nat × TypeId × Array Value)}
variable {r : List (Nat × Bool)} {a : Act} {e : List (Nat × Value)} {w : World} {i d : Nat} {g : Option (Nat × Bool)} {v : Value}
end
end Go.Proofs.Ytpekdmocgjjhnaa

/- FieldOf, both sides. -/
namespace Go.Proofs.Ytpekdmocgjjhnaa
open Go.RowKit
set_option maxRecDepth 100000
set_option linter.unusedVariables false

set_option maxHeartbeats 4000000 in
theorem implFieldOf (s : ByteArray) (d : Nat) (v : Vec) (val : Value) (lo hi : Nat) (w : World) (hv : VecAt lo hi w d v val) (hhi : hi ≤ w.heap.size) (hsm : Small d v) :
    Calls Try.prog 8 #[val, .string s] w (ResVS d (fldV s v) (fldS v) w) := by
  have C1 := Lib.hid (fun (w1 : World) (hb : Below w.heap.size w w1) => implIsVector d v val lo hi w1 (hv.below hb hhi) (Nat.le_trans hhi hb.size) hsm)
  obtain ⟨VV, hVV⟩ : ∃ V, v = V := ⟨_, rfl⟩
  rw [hVV] at C1 ⊢
  obtain ⟨kk, items, parts, names, cls, levels, code, env⟩ := v
  obtain ⟨d', ai, ci, ap, cp, an, cn, ac, cc, al, cl, ed, rfl, hI, hN, hC, hL, hP⟩ := vecAt_open hv
  subst ed
  have lp : parts.length ≤ 1048576 := hsm.2.1
  have ln : names.length ≤ 1048576 := hsm.2.2.1
  have hns : ∀ s ∈ names, s.size ≤ 1048576 := hsm.2.2.2.2.2.2.1
  have hsp : ∀ p ∈ parts, Small d' p := hsm.2.2.2.2.2.2.2.2.2
  have XK : kindV VV = kk := by rw [← hVV]; rfl
  have XV := Lib.hid (fun (h : ValidV VV) (h2 : FldK VV) => (by rw [← hVV] at h h2 ⊢; exact fld_yes h h2 : fldV s VV = partAt parts (fldZ s (fun i => names.getD i ⟨#[]⟩) names.length) ∧ fldS VV = ⟨#[]⟩))
  have XP := Lib.hid (fun (h : ValidV VV) (h2 : FldK VV) => (by rw [← hVV] at h h2; exact fld_part (s := s) h h2 : ¬ fldZ s (fun i => names.getD i ⟨#[]⟩) names.length < 0 → kk = 4 ∧ ∃ j : Nat, fldZ s (fun i => names.getD i ⟨#[]⟩) names.length = j ∧ j < parts.length))
  have CF := Lib.hid (fun (W : World) (hb : Below w.heap.size w W) => implField s an names.length cn (fun i => names.getD i ⟨#[]⟩) hi W (texts_strs (hN.below hb hhi)) (Nat.le_trans hhi hb.size) ln)
  have CE := Lib.hid (fun (j : Nat) (hj : j < parts.length) (W : World) (hb : Below w.heap.size w W) => implElemL d' items parts names cls levels code env ai ap an ac al ci cp cn cc cl lo hi W (hP.below hb hhi) (Nat.le_trans hhi hb.size) j hj (hsp _ (by rw [List.getD_eq_getElem?_getD, List.getElem?_eq_getElem hj]; exact List.getElem_mem hj)) lp)
  obtain ⟨z, hz⟩ : ∃ z, fldZ s (fun i => names.getD i ⟨#[]⟩) names.length = z := ⟨_, rfl⟩
  rw [hz] at XV XP CF
  clear hz hv hI hN hC hL hP hsm hVV hsp hns lp ln
  go_enter Try.func8, Try.ntmps8
  go_wp2_with fail
  obtain ⟨w1, hw1⟩ : ∃ W, (w.alloc (.cells #[.int .i64 kk, .slice ai items.length ci, .slice ap parts.length cp, .slice an names.length cn, .slice ac cls.length cc, .slice al levels.length cl, .int .i64 code, .int .i64 env] 31)).alloc (.cells #[.int .i64 0, .slice none 0 0, .slice none 0 0, .slice none 0 0, .slice none 0 0, .slice none 0 0, .int .i64 0, .int .i64 0] 31) = W := ⟨_, rfl⟩
  have hsz : (w.alloc (.cells #[.int .i64 kk, .slice ai items.length ci, .slice ap parts.length cp, .slice an names.length cn, .slice ac cls.length cc, .slice al levels.length cl, .int .i64 code, .int .i64 env] 31)).heap.size = w.heap.size + 1 := by simp
  have B1 := Lib.hid (show Below w.heap.size w w1 from hw1 ▸ (below1 w _).alloc (by simp) _)
  have KA := Lib.hid (show w1.heap[w.heap.size]? = some (.cells #[.int .i64 kk, .slice ai items.length ci, .slice ap parts.length cp, .slice an names.length cn, .slice ac cls.length cc, .slice al levels.length cl, .int .i64 code, .int .i64 env] 31 (0, 0)) from hw1 ▸ blk_old (blk_new w _ rfl))
  have KR := Lib.hid (show w1.heap[w.heap.size + 1]? = some (.cells #[.int .i64 0, .slice none 0 0, .slice none 0 0, .slice none 0 0, .slice none 0 0, .slice none 0 0, .int .i64 0, .int .i64 0] 31 (0, 0)) from hw1 ▸ hsz ▸ blk_new (w.alloc (.cells #[.int .i64 kk, .slice ai items.length ci, .slice ap parts.length cp, .slice an names.length cn, .slice ac cls.length cc, .slice al levels.length cl, .int .i64 code, .int .i64 env] 31)) (.cells #[.int .i64 0, .slice none 0 0, .slice none 0 0, .slice none 0 0, .slice none 0 0, .slice none 0 0, .int .i64 0, .int .i64 0] 31) rfl)
  rw [hw1]
  clear hw1 hsz
  with_reducible refine (C1.out _ B1.out).mono ?_
  rintro e w2 ⟨rfl, b⟩
  have B2 := Lib.hid (below_then B1.out b)
  have KA := Lib.hid (blk_below b KA.out)
  have KR := Lib.hid (blk_below b KR.out)
  clear b
  by_cases q : ValidV VV
  · rw [bB_yes q]
    by_cases h4 : FldK VV
    · have XV := Lib.hid (XV.out q h4)
      have XP := Lib.hid (XP.out q h4)
      have hk : kk = 0 ∨ kk = 4 := by have h4' : kindV VV = 0 ∨ kindV VV = 4 := h4; rw [XK] at h4'; exact h4'
      clear q h4 XK
      rcases hk with rfl | rfl
      · obtain ⟨k0, k1, k2, k3, k4, k5, k6, k7⟩ := vec8 KA.out
        go_wp2_with fail
        refine (CF.out _ B2.out).mono ?_
        rintro e w3 ⟨rfl, b⟩
        have B3 := Lib.hid (below_then B2.out b)
        have KA := Lib.hid (blk_below b KA.out)
        have KR := Lib.hid (blk_below b KR.out)
        clear b k0 k1 k2 k3 k4 k5 k6 k7
        by_cases hz : z < 0
        · have XX := Lib.hid (show fldV s VV = noV ∧ fldS VV = ⟨#[]⟩ from ⟨XV.out.1.trans (partAt_no hz), XV.out.2⟩)
          clear XV XP CE
          obtain ⟨z0, z1, z2, z3, z4, z5, z6, z7⟩ := vec8 KR.out
          obtain ⟨f0, f1, f2, f3, f4, f5, f6, f7⟩ := free8 KR.out
          go_wp2
          rw [XX.out.1, XX.out.2]
          exact vec_endS rfl rfl rfl rfl KR.out (zeroSD _ _ w _ (put8_below B3.out (Nat.le_succ _)))
        · obtain ⟨h, _⟩ := XP.out (by omega)
          exact absurd h (by decide)
      · obtain ⟨k0, k1, k2, k3, k4, k5, k6, k7⟩ := vec8 KA.out
        go_wp2_with fail
        refine (CF.out _ B2.out).mono ?_
        rintro e w3 ⟨rfl, b⟩
        have B3 := Lib.hid (below_then B2.out b)
        have KA := Lib.hid (blk_below b KA.out)
        have KR := Lib.hid (blk_below b KR.out)
        clear b k0 k1 k2 k3 k4 k5 k6 k7
        by_cases hz : z < 0
        · have XX := Lib.hid (show fldV s VV = noV ∧ fldS VV = ⟨#[]⟩ from ⟨XV.out.1.trans (partAt_no hz), XV.out.2⟩)
          clear XV XP CE
          obtain ⟨z0, z1, z2, z3, z4, z5, z6, z7⟩ := vec8 KR.out
          obtain ⟨f0, f1, f2, f3, f4, f5, f6, f7⟩ := free8 KR.out
          go_wp2
          rw [XX.out.1, XX.out.2]
          exact vec_endS rfl rfl rfl rfl KR.out (zeroSD _ _ w _ (put8_below B3.out (Nat.le_succ _)))
        · obtain ⟨_, j, rfl, hj⟩ := XP.out (by omega)
          have XX := Lib.hid (show fldV s VV = parts.getD j noV ∧ fldS VV = ⟨#[]⟩ from ⟨XV.out.1.trans partAt_yes, XV.out.2⟩)
          have CE := Lib.hid (CE.out j hj)
          clear XV XP hj
          obtain ⟨k0, k1, k2, k3, k4, k5, k6, k7⟩ := vec8 KA.out
          go_wp2_with fail
          refine (CE.out _ B3.out).mono ?_
          rintro e w4 ⟨y, rfl, ho, hb⟩
          obtain ⟨yk, ya1, yn1, ym1, ya2, yn2, ym2, ya3, yn3, ym3, ya4, yn4, ym4, ya5, yn5, ym5, yc, ye, rfl⟩ := ho.agg
          have hr5 := (Array.getElem?_eq_some_iff.1 KR.out).1
          have B6 := Lib.hid (below_then B3.out hb)
          have KR := Lib.hid (blk_below hb KR.out)
          have HO := Lib.hid (Own.le (Nat.le_succ d') ho)
          clear ho hb
          try clear k0 k1 k2 k3 k4 k5 k6 k7
          obtain ⟨z0, z1, z2, z3, z4, z5, z6, z7⟩ := vec8 KR.out
          obtain ⟨f0, f1, f2, f3, f4, f5, f6, f7⟩ := free8 KR.out
          go_wp2
          rw [XX.out.1, XX.out.2]
          exact vec_endS rfl rfl rfl rfl KR.out ⟨_, rfl, (HO.out.put8 (by omega) _ _ _ _ _ _ _ _).wide (by omega) (by rw [put8_size]; exact Nat.le_refl _), put8_below B6.out (Nat.le_succ _)⟩
    · have XX := Lib.hid (fld_kind (s := s) q h4)
      have h0 : ¬ kk = 0 := fun e => h4 (.inl (XK.trans e))
      have h1 : ¬ kk = 4 := fun e => h4 (.inr (XK.trans e))
      have h0b : (kk != 0) = true := bne_iff_ne.2 h0
      have h1b : (kk != 4) = true := bne_iff_ne.2 h1
      clear q h4 XK XV XP CF CE h0 h1
      obtain ⟨k0, k1, k2, k3, k4, k5, k6, k7⟩ := vec8 KA.out
      obtain ⟨z0, z1, z2, z3, z4, z5, z6, z7⟩ := vec8 KR.out
      obtain ⟨f0, f1, f2, f3, f4, f5, f6, f7⟩ := free8 KR.out
      go_wp2
      rw [XX.out.1, XX.out.2]
      exact vec_endS rfl rfl rfl rfl KR.out (zeroSD _ _ w _ (put8_below B2.out (Nat.le_succ _)))
  · rw [bB_no q]
    have XX := Lib.hid (fld_bad (s := s) q)
    clear q XK XV XP CF CE
    obtain ⟨z0, z1, z2, z3, z4, z5, z6, z7⟩ := vec8 KR.out
    obtain ⟨f0, f1, f2, f3, f4, f5, f6, f7⟩ := free8 KR.out
    go_wp2
    rw [XX.out.1, XX.out.2]
    exact vec_endS rfl rfl rfl rfl KR.out (zeroSD _ _ w _ (put8_below B2.out (Nat.le_succ _)))
set_option maxHeartbeats 4000000 in
theorem specFieldOf (s : ByteArray) (d : Nat) (v : Vec) (val : Value) (lo hi : Nat) (w : World) (hv : VecAt lo hi w d v val) (hhi : hi ≤ w.heap.size) (hsm : Small d v) (hss : s.size ≤ 1048576) :
    Calls Try.prog 6 #[val, .string s] w (ResVS d (fldV s v) (fldS v) w) := by
  have C1 := Lib.hid (fun (w1 : World) (hb : Below w.heap.size w w1) => specIsVector d v val lo hi w1 (hv.below hb hhi) (Nat.le_trans hhi hb.size) hsm)
  obtain ⟨VV, hVV⟩ : ∃ V, v = V := ⟨_, rfl⟩
  rw [hVV] at C1 ⊢
  obtain ⟨kk, items, parts, names, cls, levels, code, env⟩ := v
  obtain ⟨d', ai, ci, ap, cp, an, cn, ac, cc, al, cl, ed, rfl, hI, hN, hC, hL, hP⟩ := vecAt_open hv
  subst ed
  have lp : parts.length ≤ 1048576 := hsm.2.1
  have ln : names.length ≤ 1048576 := hsm.2.2.1
  have hns : ∀ s ∈ names, s.size ≤ 1048576 := hsm.2.2.2.2.2.2.1
  have hsp : ∀ p ∈ parts, Small d' p := hsm.2.2.2.2.2.2.2.2.2
  have XK : kindV VV = kk := by rw [← hVV]; rfl
  have XV := Lib.hid (fun (h : ValidV VV) (h2 : FldK VV) => (by rw [← hVV] at h h2 ⊢; exact fld_yes h h2 : fldV s VV = partAt parts (fldZ s (fun i => names.getD i ⟨#[]⟩) names.length) ∧ fldS VV = ⟨#[]⟩))
  have XP := Lib.hid (fun (h : ValidV VV) (h2 : FldK VV) => (by rw [← hVV] at h h2; exact fld_part (s := s) h h2 : ¬ fldZ s (fun i => names.getD i ⟨#[]⟩) names.length < 0 → kk = 4 ∧ ∃ j : Nat, fldZ s (fun i => names.getD i ⟨#[]⟩) names.length = j ∧ j < parts.length))
  have CF := Lib.hid (fun (W : World) (hb : Below w.heap.size w W) => specField s an names.length cn (fun i => names.getD i ⟨#[]⟩) hi W (texts_strs (hN.below hb hhi)) ln (fun i hi => by have := hns (names.getD i ⟨#[]⟩) (by rw [List.getD_eq_getElem?_getD, List.getElem?_eq_getElem hi]; exact List.getElem_mem hi); omega) (by omega))
  have XE := Lib.hid (fun h => fldZ_empty (s := s) (f := (fun i => names.getD i ⟨#[]⟩)) (n := names.length) h)
  have AP := Lib.hid (fun (j : Nat) (hj : j < parts.length) (W : World) (hb : Below w.heap.size w W) => (hP.below hb hhi).at_ hj)
  have CE := Lib.hid (fun (h : ValidV VV) (j : Nat) (hj : j < parts.length) (W : World) (x : Value) (hb : Below w.heap.size w W) (hv : VecAt lo hi W d' (parts.getD j noV) x) => (by
    rw [← hVV] at h
    have hp := part_is h.1 d' j hj
    exact (scvAll d').out _ x lo hi W hv (Nat.le_trans hhi hb.size) (hsp _ (by rw [List.getD_eq_getElem?_getD, List.getElem?_eq_getElem hj]; exact List.getElem_mem hj)) hp.1 hp.2.1 : Calls Try.prog 26 #[x] W (ResV d' (parts.getD j noV) W)))
  obtain ⟨z, hz⟩ : ∃ z, fldZ s (fun i => names.getD i ⟨#[]⟩) names.length = z := ⟨_, rfl⟩
  rw [hz] at XV XP CF XE
  clear hz hv hI hN hC hL hP hsm hVV hsp hns lp ln
  go_enter Try.func6, Try.ntmps6
  go_wp2_with fail
  obtain ⟨w1, hw1⟩ : ∃ W, (w.alloc (.cells #[.int .i64 kk, .slice ai items.length ci, .slice ap parts.length cp, .slice an names.length cn, .slice ac cls.length cc, .slice al levels.length cl, .int .i64 code, .int .i64 env] 31)).alloc (.cells #[.int .i64 0, .slice none 0 0, .slice none 0 0, .slice none 0 0, .slice none 0 0, .slice none 0 0, .int .i64 0, .int .i64 0] 31) = W := ⟨_, rfl⟩
  have hsz : (w.alloc (.cells #[.int .i64 kk, .slice ai items.length ci, .slice ap parts.length cp, .slice an names.length cn, .slice ac cls.length cc, .slice al levels.length cl, .int .i64 code, .int .i64 env] 31)).heap.size = w.heap.size + 1 := by simp
  have B1 := Lib.hid (show Below w.heap.size w w1 from hw1 ▸ (below1 w _).alloc (by simp) _)
  have KA := Lib.hid (show w1.heap[w.heap.size]? = some (.cells #[.int .i64 kk, .slice ai items.length ci, .slice ap parts.length cp, .slice an names.length cn, .slice ac cls.length cc, .slice al levels.length cl, .int .i64 code, .int .i64 env] 31 (0, 0)) from hw1 ▸ blk_old (blk_new w _ rfl))
  have KR := Lib.hid (show w1.heap[w.heap.size + 1]? = some (.cells #[.int .i64 0, .slice none 0 0, .slice none 0 0, .slice none 0 0, .slice none 0 0, .slice none 0 0, .int .i64 0, .int .i64 0] 31 (0, 0)) from hw1 ▸ hsz ▸ blk_new (w.alloc (.cells #[.int .i64 kk, .slice ai items.length ci, .slice ap parts.length cp, .slice an names.length cn, .slice ac cls.length cc, .slice al levels.length cl, .int .i64 code, .int .i64 env] 31)) (.cells #[.int .i64 0, .slice none 0 0, .slice none 0 0, .slice none 0 0, .slice none 0 0, .slice none 0 0, .int .i64 0, .int .i64 0] 31) rfl)
  rw [hw1]
  clear hw1 hsz
  with_reducible refine (C1.out _ B1.out).mono ?_
  rintro e w2 ⟨rfl, b⟩
  have B2 := Lib.hid (below_then B1.out b)
  have KA := Lib.hid (blk_below b KA.out)
  have KR := Lib.hid (blk_below b KR.out)
  clear b
  by_cases q : ValidV VV
  · rw [bB_yes q]
    have CE := Lib.hid (CE.out q)
    by_cases h4 : FldK VV
    · have XV := Lib.hid (XV.out q h4)
      have XP := Lib.hid (XP.out q h4)
      have hk : kk = 0 ∨ kk = 4 := by have h4' : kindV VV = 0 ∨ kindV VV = 4 := h4; rw [XK] at h4'; exact h4'
      clear q h4 XK
      by_cases hs0 : s.size = 0
      · obtain rfl := empty_of_size hs0
        have hz : z < 0 := by have := XE.out hs0; omega
        have XX := Lib.hid (show fldV ⟨#[]⟩ VV = noV ∧ fldS VV = ⟨#[]⟩ from ⟨XV.out.1.trans (partAt_no hz), XV.out.2⟩)
        clear XV XP XE CE hz AP hs0 hss
        rcases hk with rfl | rfl
        · obtain ⟨k0, k1, k2, k3, k4, k5, k6, k7⟩ := vec8 KA.out
          go_wp2_with fail
          refine (CF.out _ B2.out).mono ?_
          rintro e w3 ⟨r, rfl, hr, hr1, rfl⟩
          have B3 := Lib.hid B2.out
          clear k0 k1 k2 k3 k4 k5 k6 k7
          clear hr hr1
          obtain ⟨z0, z1, z2, z3, z4, z5, z6, z7⟩ := vec8 KR.out
          obtain ⟨f0, f1, f2, f3, f4, f5, f6, f7⟩ := free8 KR.out
          go_wp2
          rw [XX.out.1, XX.out.2]
          exact vec_endS rfl rfl rfl rfl KR.out (zeroSD _ _ w _ (put8_below B3.out (Nat.le_succ _)))
        · obtain ⟨k0, k1, k2, k3, k4, k5, k6, k7⟩ := vec8 KA.out
          go_wp2_with fail
          refine (CF.out _ B2.out).mono ?_
          rintro e w3 ⟨r, rfl, hr, hr1, rfl⟩
          have B3 := Lib.hid B2.out
          clear k0 k1 k2 k3 k4 k5 k6 k7
          clear hr hr1
          obtain ⟨z0, z1, z2, z3, z4, z5, z6, z7⟩ := vec8 KR.out
          obtain ⟨f0, f1, f2, f3, f4, f5, f6, f7⟩ := free8 KR.out
          go_wp2
          rw [XX.out.1, XX.out.2]
          exact vec_endS rfl rfl rfl rfl KR.out (zeroSD _ _ w _ (put8_below B3.out (Nat.le_succ _)))
      · have hne := notEmptyB hs0
        have HS := Lib.hid hs0
        clear hs0 hss XE
        rcases hk with rfl | rfl
        · obtain ⟨k0, k1, k2, k3, k4, k5, k6, k7⟩ := vec8 KA.out
          go_wp2_with fail
          refine (CF.out _ B2.out).mono ?_
          rintro e w3 ⟨r, rfl, hr, hr1, rfl⟩
          have B3 := Lib.hid B2.out
          clear k0 k1 k2 k3 k4 k5 k6 k7
          obtain rfl := hr HS.out
          clear hr hr1
          by_cases hz : r < 0
          · have XX := Lib.hid (show fldV s VV = noV ∧ fldS VV = ⟨#[]⟩ from ⟨XV.out.1.trans (partAt_no hz), XV.out.2⟩)
            clear XV XP CE AP
            obtain ⟨z0, z1, z2, z3, z4, z5, z6, z7⟩ := vec8 KR.out
            obtain ⟨f0, f1, f2, f3, f4, f5, f6, f7⟩ := free8 KR.out
            go_wp2
            rw [XX.out.1, XX.out.2]
            exact vec_endS rfl rfl rfl rfl KR.out (zeroSD _ _ w _ (put8_below B3.out (Nat.le_succ _)))
          · obtain ⟨h, _⟩ := XP.out (by omega)
            exact absurd h (by decide)
        · obtain ⟨k0, k1, k2, k3, k4, k5, k6, k7⟩ := vec8 KA.out
          go_wp2_with fail
          refine (CF.out _ B2.out).mono ?_
          rintro e w3 ⟨r, rfl, hr, hr1, rfl⟩
          have B3 := Lib.hid B2.out
          clear k0 k1 k2 k3 k4 k5 k6 k7
          obtain rfl := hr HS.out
          clear hr hr1
          by_cases hz : r < 0
          · have XX := Lib.hid (show fldV s VV = noV ∧ fldS VV = ⟨#[]⟩ from ⟨XV.out.1.trans (partAt_no hz), XV.out.2⟩)
            clear XV XP CE AP
            obtain ⟨z0, z1, z2, z3, z4, z5, z6, z7⟩ := vec8 KR.out
            obtain ⟨f0, f1, f2, f3, f4, f5, f6, f7⟩ := free8 KR.out
            go_wp2
            rw [XX.out.1, XX.out.2]
            exact vec_endS rfl rfl rfl rfl KR.out (zeroSD _ _ w _ (put8_below B3.out (Nat.le_succ _)))
          · obtain ⟨_, j, rfl, hj⟩ := XP.out (by omega)
            have XX := Lib.hid (show fldV s VV = parts.getD j noV ∧ fldS VV = ⟨#[]⟩ from ⟨XV.out.1.trans partAt_yes, XV.out.2⟩)
            have CE := Lib.hid (CE.out j hj)
            have AP := Lib.hid (AP.out j hj)
            obtain ⟨V, hV⟩ : ∃ V, parts.getD j noV = V := ⟨_, rfl⟩
            rw [hV] at XX CE AP
            clear XV XP hV
            obtain ⟨k0, k1, k2, k3, k4, k5, k6, k7⟩ := vec8 KA.out
            obtain ⟨b, off, c0, c1, c2, c3, c4, c5, c6, c7, rfl, hbh, hvv, e0, e1, e2, e3, e4, e5, e6, e7⟩ := AP.out w2 B3.out
            have HV := Lib.hid hvv
            clear hvv
            go_wp2_with fail
            refine (CE.out _ _ B3.out HV.out).mono ?_
            rintro e w4 ⟨y, rfl, ho, hb⟩
            clear e0 e1 e2 e3 e4 e5 e6 e7
            obtain ⟨yk, ya1, yn1, ym1, ya2, yn2, ym2, ya3, yn3, ym3, ya4, yn4, ym4, ya5, yn5, ym5, yc, ye, rfl⟩ := ho.agg
            have hr5 := (Array.getElem?_eq_some_iff.1 KR.out).1
            have B6 := Lib.hid (below_then B3.out hb)
            have KR := Lib.hid (blk_below hb KR.out)
            have HO := Lib.hid (Own.le (Nat.le_succ d') ho)
            clear ho hb
            try clear k0 k1 k2 k3 k4 k5 k6 k7
            obtain ⟨z0, z1, z2, z3, z4, z5, z6, z7⟩ := vec8 KR.out
            obtain ⟨f0, f1, f2, f3, f4, f5, f6, f7⟩ := free8 KR.out
            go_wp2
            rw [XX.out.1, XX.out.2]
            exact vec_endS rfl rfl rfl rfl KR.out ⟨_, rfl, (HO.out.put8 (by omega) _ _ _ _ _ _ _ _).wide (by omega) (by rw [put8_size]; exact Nat.le_refl _), put8_below B6.out (Nat.le_succ _)⟩
    · have XX := Lib.hid (fld_kind (s := s) q h4)
      have h0 : ¬ kk = 0 := fun e => h4 (.inl (XK.trans e))
      have h1 : ¬ kk = 4 := fun e => h4 (.inr (XK.trans e))
      have h0b : (kk != 0) = true := bne_iff_ne.2 h0
      have h1b : (kk != 4) = true := bne_iff_ne.2 h1
      clear q h4 XK XV XP CF CE XE AP hss h0 h1
      obtain ⟨k0, k1, k2, k3, k4, k5, k6, k7⟩ := vec8 KA.out
      obtain ⟨z0, z1, z2, z3, z4, z5, z6, z7⟩ := vec8 KR.out
      obtain ⟨f0, f1, f2, f3, f4, f5, f6, f7⟩ := free8 KR.out
      go_wp2
      rw [XX.out.1, XX.out.2]
      exact vec_endS rfl rfl rfl rfl KR.out (zeroSD _ _ w _ (put8_below B2.out (Nat.le_succ _)))
  · rw [bB_no q]
    have XX := Lib.hid (fld_bad (s := s) q)
    clear q XK XV XP CF CE XE AP hss
    go_wp2_with fail
    with_reducible refine (specBad _).mono ?_
    rintro e w3 ⟨rfl, b⟩
    have B2 := Lib.hid (below_then B2.out b)
    have KR := Lib.hid (blk_below b KR.out)
    clear b
    obtain ⟨z0, z1, z2, z3, z4, z5, z6, z7⟩ := vec8 KR.out
    obtain ⟨f0, f1, f2, f3, f4, f5, f6, f7⟩ := free8 KR.out
    go_wp2
    rw [XX.out.1, XX.out.2]
    exact vec_endS rfl rfl rfl rfl KR.out (zeroSD _ _ w _ (put8_below B2.out (Nat.le_succ _)))
end Go.Proofs.Ytpekdmocgjjhnaa
