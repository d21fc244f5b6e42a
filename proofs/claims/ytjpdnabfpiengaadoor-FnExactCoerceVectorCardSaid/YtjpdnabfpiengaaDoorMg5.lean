/- CoerceVector as data: what it answers is a vector. -/
import Derived.Test.YtjpdnabfpiengaaDoorRows
import Derived.Test.YtjpdnabfpiengaaDoorMg3
import Derived.Test.YtjpdnabfpiengaaDoorMg4
import Derived.Test.YtjpdnabfpiengaaDoorMg1
import Derived.Test.YtjpdnabfpiengaaDoorVecCntI
import Derived.Test.YtjpdnabfpiengaaDoorMg2
import Derived.WalkKit
import Derived.OwnWalk
import Derived.Deep.DeepCutAuto
import Derived.Lib.Hide
namespace Go.Proofs.YtjpdnabfpiengaaDoor
open Go.RowKit
set_option maxRecDepth 100000
set_option linter.unusedVariables false

/-- Can v be converted to the kind j? -/
def OkC (j : Int) (v : Vec) : Prop := ValidV v ∧ j ≤ 4 ∧ (kindV v ≤ j ∨ kindV v = 5) ∧ (kindV v = 5 → j = 4)
noncomputable def coeV (j : Int) (v : Vec) : Vec := match bB (OkC j v), bB (j = 4), v with
  | true, true, .mk kk items parts names cls levels code env => .mk 4 [] (elems (.mk kk items parts names cls levels code env)) names [] [] 0 0
  | true, false, .mk kk items _ names _ _ _ _ => mkN j (cnvL kk j items) names
  | false, _, _ => noV
noncomputable def coeB (j : Int) (v : Vec) : Bool := bB (OkC j v)
noncomputable def coeD (d : Nat) (j : Int) (v : Vec) : Nat := match bB (OkC j v), bB (j = 4) with
  | true, true => elmD d v + 1
  | true, false => 1
  | false, _ => 1
theorem coe_no {j : Int} {v : Vec} {d : Nat} (h : ¬ OkC j v) : coeV j v = noV ∧ coeB j v = false ∧ coeD d j v = 1 := by
  unfold coeV coeB coeD; rw [bB_no h]; exact ⟨rfl, rfl, rfl⟩
theorem coe_list {v : Vec} {d : Nat} {kk : Int} {items : List It} {parts : List Vec} {names cls levels : List ByteArray} {code env : Int} (e : v = .mk kk items parts names cls levels code env) (h : OkC 4 v) : coeV 4 v = .mk 4 [] (elems v) names [] [] 0 0 ∧ coeB 4 v = true ∧ coeD d 4 v = elmD d v + 1 := by
  subst e
  unfold coeV coeB coeD; rw [bB_yes h, bB_yes rfl]; exact ⟨rfl, rfl, rfl⟩
theorem coe_flat {v : Vec} {d : Nat} {j kk : Int} {items : List It} {parts : List Vec} {names cls levels : List ByteArray} {code env : Int} (e : v = .mk kk items parts names cls levels code env) (h : OkC j v) (h4 : ¬ j = 4) : coeV j v = mkN j (cnvL kk j items) names ∧ coeB j v = true ∧ coeD d j v = 1 := by
  subst e
  unfold coeV coeB coeD; rw [bB_yes h, bB_no h4]; exact ⟨rfl, rfl, rfl⟩
theorem lab0 (n : Nat) : LabelsOk (txtS []) ([] : List ByteArray).length n := ⟨Nat.zero_le _, fun i hi => absurd hi (Nat.not_lt_zero _)⟩
theorem sum_ones {f : Nat → Nat} : ∀ n, (∀ i, i < n → f i = 1) → sumN f n = n
  | 0, _ => rfl
  | n + 1, h => by
    show sumN f n + f n = n + 1
    rw [sum_ones n (fun i hi => h i (by omega)), h n (by omega)]
/-- A vector without parts is one at any depth. -/
theorem isV_flat {n : Nat} {v : Vec} (h : FlatV v) (h0 : (partsV v).length = 0) : IsV n v := by
  cases n with
  | zero => exact ⟨h, h0⟩
  | succ n => exact ⟨h, fun i hi => by omega⟩
theorem cells_flat {n : Nat} {v : Vec} (h0 : (partsV v).length = 0) : cellsV n v = lengthV v := by
  cases n with
  | zero => rfl
  | succ n =>
    obtain ⟨k, items, parts, names, cls, levels, code, env⟩ := v
    have hp : parts = [] := List.eq_nil_of_length_eq_zero h0
    subst hp
    show lengthV _ + sumN _ 0 = _
    simp [sumN]
theorem isV_one {kk : Int} {x : It} {n : Nat} (hk : 1 ≤ kk ∧ kk ≤ 3) (hx : ItOk kk x) : IsV n (vecOf kk [x]) ∧ cellsV n (vecOf kk [x]) = 1 := by
  have hf : FlatV (vecOf kk [x]) := by
    show FlatOk kk [x] 0 [] [] [] 0 0
    refine ⟨by omega, ?_, .inl rfl, ⟨fun i h => absurd h (Nat.not_lt_zero _), .inl rfl⟩, lab0 _, lab0 _, fun _ => ⟨rfl, rfl⟩, fun _ => rfl, fun _ => rfl, fun h => by omega, fun h => by omega, fun h => by omega, fun i hi => ?_⟩
    · unfold lenV; rw [if_neg (by omega)]; simp only [List.length_cons, List.length_nil]; omega
    · obtain rfl : i = 0 := by simpa using hi
      exact ⟨hx, .inl rfl⟩
  refine ⟨isV_flat hf rfl, ?_⟩
  rw [cells_flat rfl]
  show lenV kk 1 0 = 1
  unfold lenV; rw [if_neg (by omega)]
theorem coe_valid {j : Int} {v : Vec} (h : OkC j v) : ValidV (coeV j v) := by
  obtain ⟨kk, items, parts, names, cls, levels, code, env⟩ := v
  obtain ⟨hv, h1, h2, h3⟩ := id h
  have hf : FlatOk kk items parts.length names cls levels code env := hv.1.flat
  have hc := hv.2
  have hkk : 0 ≤ kk ∧ kk ≤ 5 := hf.h_kind
  have h2' : kk ≤ j ∨ kk = 5 := h2
  have h3' : kk = 5 → j = 4 := h3
  by_cases h4 : j = 4
  · subst h4
    rw [(coe_list (d := 0) rfl h).1]
    by_cases h5 : kk = 5
    · subst h5
      rw [elems_fun rfl]
      obtain ⟨q1, q2, _⟩ := hf.h_func rfl
      have q3 := hf.h_noParts (by decide)
      have hfl : FlatV (.mk 4 [] [.mk 5 items parts names cls levels code env] names [] [] 0 0) := by
        show FlatOk 4 [] 1 names [] [] 0 0
        refine ⟨by omega, by decide, .inl q2, hf.h_named, lab0 _, lab0 _, fun _ => ⟨rfl, rfl⟩, fun _ => rfl, fun h => absurd rfl h, fun h => by omega, fun h => by omega, fun _ => rfl, fun i hi => absurd hi (Nat.not_lt_zero _)⟩
      refine ⟨⟨hfl, fun i hi => ?_⟩, ?_⟩
      · obtain rfl : i = 0 := by have : i < 1 := hi; omega
        exact isV_flat hv.1.flat q3
      · show lenV 4 0 1 + (0 + cellsV 2 (.mk 5 items parts names cls levels code env)) ≤ 200
        rw [cells_flat (show (partsV (.mk 5 items parts names cls levels code env)).length = 0 from q3)]
        show lenV 4 0 1 + (0 + lenV 5 items.length parts.length) ≤ 200
        have e1 : lenV 4 0 1 = 1 := rfl
        have e2 : lenV 5 items.length parts.length = 1 := rfl
        omega
    · by_cases h44 : kk = 4
      · subst h44
        rw [elems_list]
        have q := hf.h_list rfl
        have qi : items = [] := List.eq_nil_of_length_eq_zero q
        subst qi
        have hfl : FlatV (.mk 4 [] parts names [] [] 0 0) := by
          show FlatOk 4 [] parts.length names [] [] 0 0
          exact ⟨by omega, hf.h_len, hf.h_names, hf.h_named, lab0 _, lab0 _, fun _ => ⟨rfl, rfl⟩, fun _ => rfl, fun h => absurd rfl h, fun h => by omega, fun h => by omega, fun _ => rfl, fun i hi => absurd hi (Nat.not_lt_zero _)⟩
        exact ⟨⟨hfl, hv.1.2⟩, hc⟩
      · rw [elems_items h5 h44]
        have hl := hf.h_len
        have hn := hf.h_names
        have q3 := hf.h_noParts h44
        unfold lenV at hl hn
        rw [if_neg h5] at hl hn
        have hlen : (items.map (fun x => vecOf kk [x])).length = items.length := List.length_map ..
        have hg : ∀ i, i < items.length → (items.map (fun x => vecOf kk [x])).getD i noV = vecOf kk [items.getD i noI] := fun i hi => by simp [List.getD_eq_getElem?_getD, hi]
        have h0 : 0 < items.length → 1 ≤ kk := fun hp => by
          by_cases hz : kk = 0
          · have := (hf.h_null hz).1; omega
          · omega
        have hfl : FlatV (.mk 4 [] (items.map (fun x => vecOf kk [x])) names [] [] 0 0) := by
          show FlatOk 4 [] (items.map (fun x => vecOf kk [x])).length names [] [] 0 0
          rw [hlen]
          refine ⟨by omega, ?_, ?_, hf.h_named, lab0 _, lab0 _, fun _ => ⟨rfl, rfl⟩, fun _ => rfl, fun h => absurd rfl h, fun h => by omega, fun h => by omega, fun _ => rfl, fun i hi => absurd hi (Nat.not_lt_zero _)⟩
          · unfold lenV; rw [if_neg (by decide)]; simp only [List.length_nil]; omega
          · unfold lenV; rw [if_neg (by decide)]; simp only [List.length_nil]; omega
        have hone : ∀ i, i < items.length → IsV 2 (vecOf kk [items.getD i noI]) ∧ cellsV 2 (vecOf kk [items.getD i noI]) = 1 := fun i hi => isV_one ⟨h0 (by omega), by omega⟩ (hf.h_items i hi).1
        refine ⟨⟨hfl, fun i hi => ?_⟩, ?_⟩
        · have hi' : i < items.length := by have : i < (items.map (fun x => vecOf kk [x])).length := hi; omega
          show IsV 2 ((items.map (fun x => vecOf kk [x])).getD i noV)
          rw [hg i hi']
          exact (hone i hi').1
        · show lenV 4 0 (items.map (fun x => vecOf kk [x])).length + sumN (fun i => cellsV 2 ((items.map (fun x => vecOf kk [x])).getD i noV)) (items.map (fun x => vecOf kk [x])).length ≤ 200
          rw [hlen, sum_ones items.length (fun i hi => by rw [hg i hi]; exact (hone i hi).2)]
          unfold lenV; rw [if_neg (by decide)]; omega
  · rw [(coe_flat (d := 0) rfl h h4).1]
    have h5 : ¬ kk = 5 := fun e => h4 (h3' e)
    have hkj : kk ≤ j := h2'.resolve_right h5
    have hl := hf.h_len
    have hn := hf.h_names
    have q3 := hf.h_noParts (by omega)
    unfold lenV at hl hn
    rw [if_neg h5] at hl hn
    have hcl : (cnvL kk j items).length = items.length := cnvL_len _ _ _
    have e5 : lenV j (cnvL kk j items).length 0 = items.length := by unfold lenV; rw [if_neg (by omega), hcl]; rfl
    have hfl : FlatV (mkN j (cnvL kk j items) names) := by
      show FlatOk j (cnvL kk j items) 0 names [] [] 0 0
      refine ⟨by omega, by rw [e5]; omega, by rw [e5]; omega, hf.h_named, lab0 _, lab0 _, fun _ => ⟨rfl, rfl⟩, fun _ => rfl, fun _ => rfl, fun h => by omega, fun h => ?_, fun h => absurd h h4, fun i hi => ?_⟩
      · have := (hf.h_null (by omega)).1
        exact ⟨by rw [hcl]; omega, rfl⟩
      · rw [hcl] at hi
        rw [cnvL_at hi]
        exact ⟨cnv_ok (hf.h_items i hi).1 hkj (by omega), .inl rfl⟩
    refine ⟨isV_flat hfl rfl, ?_⟩
    rw [cells_flat rfl]
    show lenV j (cnvL kk j items).length 0 ≤ 200
    omega
end Go.Proofs.YtjpdnabfpiengaaDoor

/- convertVector to lists; CoerceVector of the program. -/
namespace Go.Proofs.YtjpdnabfpiengaaDoor
open Go.RowKit
set_option maxRecDepth 100000
set_option linter.unusedVariables false

/-- A result of a vector and a truth value. -/
def ResVB (d : Nat) (V : Vec) (b : Bool) (w : World) (e : Ending) (w' : World) : Prop := ∃ y, e = .returned (.tuple #[y, .bool b]) ∧ Own d V y w.heap.size w'.heap.size w' ∧ Below w.heap.size w w'
theorem ResV.withB {d : Nat} {V : Vec} {w : World} {y : Value} {w' : World} {b : Bool} (h : ResV d V w (.returned y) w') : ResVB d V b w (.returned (.tuple #[y, .bool b])) w' := by
  obtain ⟨z, e, r⟩ := h
  cases e
  exact ⟨_, rfl, r⟩
theorem zeroB (b : Bool) (w w' : World) (hb : Below w.heap.size w w') : ResVB 1 noV b w (.returned (.tuple #[.agg #[.int .i64 0, .slice none 0 0, .slice none 0 0, .slice none 0 0, .slice none 0 0, .slice none 0 0, .int .i64 0, .int .i64 0], .bool b])) w' := ⟨_, rfl, own_zero _ _ _, hb⟩
/-- A list whose parts and names are there. -/
theorem own_listV {w : World} {d lo hi : Nat} {parts : List Vec} {names : List ByteArray} {ap an : Option Addr} {cp cn : Nat} {Fp Fn : List Nat} (hp : OwnParts w d (.slice ap parts.length cp) parts Fp) (hn : OwnTxs w an names Fn) (np : Fp.Nodup) (nn : Fn.Nodup) (hr : ∀ b ∈ Fp, lo ≤ b ∧ b < hi) (hq : ∀ b ∈ Fn, lo ≤ b ∧ b < hi) (hd : ∀ b ∈ Fp, b ∉ Fn) (hc : names.length ≤ cn) :
    Own (d + 1) (.mk 4 [] parts names [] [] 0 0) (.agg #[.int .i64 4, .slice none 0 0, .slice ap parts.length cp, .slice an names.length cn, .slice none 0 0, .slice none 0 0, .int .i64 0, .int .i64 0]) lo hi w := by
  obtain ⟨ap', cp', e, h1, h2⟩ := hp
  simp only [Value.slice.injEq, true_and] at e
  obtain ⟨rfl, rfl⟩ := e
  refine ⟨Fp ++ Fn, ?_, ?_, fun b hb => ?_⟩
  · show OwnVec w (d + 1) (.mk 4 [] parts names [] [] 0 0) _ _
    unfold OwnVec
    exact ⟨none, 0, ap, cp, an, cn, none, 0, none, 0, [], Fp, Fn, [], [], rfl, by simp, ⟨Nat.le_refl _, h1, hc, Nat.le_refl _, Nat.le_refl _⟩, .inl ⟨rfl, rfl⟩, hn, .inl ⟨rfl, rfl⟩, .inl ⟨rfl, rfl⟩, h2⟩
  · rw [List.nodup_append]
    exact ⟨np, nn, fun x hx y hy e => hd x hx (e ▸ hy)⟩
  · rcases List.mem_append.1 hb with h | h
    · exact hr b h
    · exact hq b h
theorem OwnParts.form {w : World} {d : Nat} {y : Value} {parts : List Vec} {F : List Nat} (h : OwnParts w d y parts F) : ∃ ap cp, y = .slice ap parts.length cp := by
  obtain ⟨ap, cp, e, _⟩ := h
  exact ⟨ap, cp, e⟩
set_option maxHeartbeats 8000000 in
theorem implConvL (d : Nat) (v : Vec) (val : Value) (lo hi : Nat) (w : World) (hv : VecAt lo hi w d v val) (hhi : hi ≤ w.heap.size) (hsm : Small d v) (hval : ValidV v) :
    Calls Tryd.prog 49 #[val, .int .i64 4] w (ResV (elmD d v + 1) (.mk 4 [] (elems v) (namesV v) [] [] 0 0) w) := by
  have CE := Lib.hid (fun (W : World) (hb : Below w.heap.size w W) => implElemsO d v val lo hi W (hv.below hb hhi) (Nat.le_trans hhi hb.size) hsm hval)
  obtain ⟨VV, hVV⟩ : ∃ V, v = V := ⟨_, rfl⟩
  rw [hVV] at CE ⊢
  have XN := Lib.hid (show namesV VV = namesV v by rw [hVV])
  obtain ⟨kk, items, parts, names, cls, levels, code, env⟩ := v
  have XN := Lib.hid (show namesV VV = names from XN.out)
  obtain ⟨d', ai, ci, ap, cp, an, cn, ac, cc, al, cl, ed, rfl, hI, hN, hC, hL, hP⟩ := vecAt_open hv
  have ln : names.length ≤ 1048576 := by subst ed; exact hsm.2.2.1
  have CC := Lib.hid (fun (w1 : World) (hb : Below w.heap.size w w1) => implCopyAny names an cn lo hi w1 (hN.below hb hhi) ln)
  obtain ⟨D, hD⟩ : ∃ D, elmD d VV = D := ⟨_, rfl⟩
  obtain ⟨E, hE⟩ : ∃ E, elems VV = E := ⟨_, rfl⟩
  have CE := Lib.hid (fun W hb => (by have q := CE.out W hb; unfold ElmOwn at q; rw [hD, hE] at q; exact q : Calls Tryd.prog 80 #[.agg #[.int .i64 kk, .slice ai items.length ci, .slice ap parts.length cp, .slice an names.length cn, .slice ac cls.length cc, .slice al levels.length cl, .int .i64 code, .int .i64 env]] W (fun e w' => ∃ y F, e = .returned y ∧ OwnParts w' D y E F ∧ F.Nodup ∧ (∀ b ∈ F, W.heap.size ≤ b ∧ b < w'.heap.size) ∧ Below W.heap.size W w')))
  rw [hD, hE, XN.out]
  clear hv hI hN hC hL hP hsm hval ed hVV hD hE XN
  go_enter Tryd.func49, Tryd.ntmps49
  go_wp2_with fail
  obtain ⟨w1, hw1⟩ : ∃ W, (w.alloc (.cells #[.int .i64 kk, .slice ai items.length ci, .slice ap parts.length cp, .slice an names.length cn, .slice ac cls.length cc, .slice al levels.length cl, .int .i64 code, .int .i64 env] 31)).alloc (.cells #[.int .i64 0, .slice none 0 0, .slice none 0 0, .slice none 0 0, .slice none 0 0, .slice none 0 0, .int .i64 0, .int .i64 0] 31) = W := ⟨_, rfl⟩
  have hsz : (w.alloc (.cells #[.int .i64 kk, .slice ai items.length ci, .slice ap parts.length cp, .slice an names.length cn, .slice ac cls.length cc, .slice al levels.length cl, .int .i64 code, .int .i64 env] 31)).heap.size = w.heap.size + 1 := by simp
  have B1 := Lib.hid (show Below w.heap.size w w1 from hw1 ▸ below2 w _ _)
  have S1 := Lib.hid (show w1.heap.size = w.heap.size + 2 by rw [← hw1]; simp)
  have KA := Lib.hid (show w1.heap[w.heap.size]? = some (.cells #[.int .i64 kk, .slice ai items.length ci, .slice ap parts.length cp, .slice an names.length cn, .slice ac cls.length cc, .slice al levels.length cl, .int .i64 code, .int .i64 env] 31 (0, 0)) from hw1 ▸ blk_old (blk_new w _ rfl))
  have KR := Lib.hid (show w1.heap[w.heap.size + 1]? = some (.cells #[.int .i64 0, .slice none 0 0, .slice none 0 0, .slice none 0 0, .slice none 0 0, .slice none 0 0, .int .i64 0, .int .i64 0] 31 (0, 0)) from hw1 ▸ blk_new _ _ hsz.symm)
  rw [hw1]
  clear hw1 hsz
  with_reducible refine (CC.out _ B1.out).mono ?_
  rintro e w2 ⟨v, rfl, ⟨na, nc, FN, rfl, hT, hnd, hr, hcap⟩, b⟩
  have B2 := Lib.hid (below_then B1.out b)
  have KA := Lib.hid (blk_below b KA.out)
  have KR := Lib.hid (blk_below b KR.out)
  have S2 := Lib.hid b.size
  obtain ⟨w3, hw3⟩ : ∃ W, w2.alloc (.cells #[.int .i64 4, .slice none 0 0, .slice none 0 0, .slice na names.length nc, .slice none 0 0, .slice none 0 0, .int .i64 0, .int .i64 0] 31) = W := ⟨_, rfl⟩
  have b3 : Below w2.heap.size w2 w3 := hw3 ▸ below1 w2 _
  have S3 := Lib.hid (show w3.heap.size = w2.heap.size + 1 by rw [← hw3]; simp)
  have KB := Lib.hid (show w3.heap[w2.heap.size]? = some (.cells #[.int .i64 4, .slice none 0 0, .slice none 0 0, .slice na names.length nc, .slice none 0 0, .slice none 0 0, .int .i64 0, .int .i64 0] 31 (0, 0)) from hw3 ▸ blk_new w2 _ rfl)
  have B3 := Lib.hid (below_then B2.out b3)
  have KA3 := Lib.hid (blk_below b3 KA.out)
  have KR3 := Lib.hid (blk_below b3 KR.out)
  have HT3 := Lib.hid (show OwnTxs w3 na names FN from hT.kept (fun g hg => b3.block g (hr g hg).2))
  have EW3 := Lib.hid hw3
  have HND := Lib.hid hnd
  have HRG := Lib.hid hr
  have HCP := Lib.hid hcap
  have hltA := (Array.getElem?_eq_some_iff.1 KA.out).1
  clear b hT hnd hr hcap b3 hw3
  obtain ⟨k0, k1, k2, k3, k4, k5, k6, k7⟩ := vec8 KA.out
  go_wp2_with fail
  rw [EW3.out]
  with_reducible refine (CE.out _ B3.out).mono ?_
  rintro e w4 ⟨y, FP, rfl, hp, hnp, hrp, b⟩
  obtain ⟨ap', cp', rfl⟩ := hp.form
  have B4 := Lib.hid (below_then B3.out b)
  have KB := Lib.hid (blk_below b KB.out)
  have KR := Lib.hid (blk_below b KR3.out)
  have HT := Lib.hid (show OwnTxs w4 na names FN from HT3.out.kept (fun g hg => b.block g (by have := HRG.out g hg; have := S3.out; omega)))
  have S4 := Lib.hid b.size
  have HP := Lib.hid hp
  have HNP := Lib.hid hnp
  have HRP := Lib.hid hrp
  clear k0 k1 k2 k3 k4 k5 k6 k7 hp hnp hrp b hltA
  obtain ⟨y0, y1, y2, y3, y4, y5, y6, y7⟩ := vec8 KB.out
  obtain ⟨e0, e1, e2, e3, e4, e5, e6, e7⟩ := free8 KB.out
  obtain ⟨z0, z1, z2, z3, z4, z5, z6, z7⟩ := vec8 KR.out
  obtain ⟨f0, f1, f2, f3, f4, f5, f6, f7⟩ := free8 KR.out
  have hS1 := S1.out
  have hS2 := S2.out
  have hS3 := S3.out
  have hS4 := S4.out
  have hbr : ¬ w.heap.size + 1 = w2.heap.size := by omega
  have SX : (w4.setCell ⟨w2.heap.size, 2, none⟩ (.slice ap' E.length cp')).heap.size = w4.heap.size := by simp
  have KRX := Lib.hid (show (w4.setCell ⟨w2.heap.size, 2, none⟩ (.slice ap' E.length cp')).heap[w.heap.size + 1]? = _ from (Below.heap_setCell _ _ _ _ hbr).trans KR.out)
  have BX := Lib.hid (B4.out.setCell (p := ⟨w2.heap.size, 2, none⟩) (show w.heap.size ≤ w2.heap.size by omega) (.slice ap' E.length cp'))
  have OX := Lib.hid (own_listV (w := w4.setCell ⟨w2.heap.size, 2, none⟩ (.slice ap' E.length cp')) (lo := w.heap.size + 2) (hi := w4.heap.size) (HP.out.kept (fun g hg => Below.heap_setCell _ _ _ _ (by have := HRP.out g hg; show g ≠ w2.heap.size; omega))) (HT.out.kept (fun g hg => Below.heap_setCell _ _ _ _ (by have := HRG.out g hg; show g ≠ w2.heap.size; omega))) HNP.out HND.out (fun g hg => by have := HRP.out g hg; omega) (fun g hg => by have := HRG.out g hg; omega) (fun g hg hh => by have := HRP.out g hg; have := HRG.out g hh; omega) HCP.out)
  go_wp2
  exact vec_end rfl rfl rfl KRX.out ⟨_, rfl, (OX.out.put8 (Nat.lt_succ_self _) _ _ _ _ _ _ _ _).wide (by omega) (by rw [put8_size, SX]; exact Nat.le_refl _), put8_below BX.out (Nat.le_succ _)⟩
end Go.Proofs.YtjpdnabfpiengaaDoor

/- CoerceVector of the program. -/
namespace Go.Proofs.YtjpdnabfpiengaaDoor
open Go.RowKit
set_option maxRecDepth 100000
set_option linter.unusedVariables false

theorem implLater (j kk : Int) (w : World) :
    Calls Tryd.prog 48 #[.int .i64 j, .int .i64 kk] w fun e w' => e = .returned (.bool (bB ((kk ≠ 5 ∧ kk ≤ j ∧ j ≤ 4) ∨ (kk = 5 ∧ j = 4)))) ∧ w = w' := by
  by_cases h5 : kk = 5
  · subst h5
    by_cases h4 : j = 4
    · subst h4
      rw [bB_yes (.inr ⟨rfl, rfl⟩)]
      go_enter Tryd.func48, Tryd.ntmps48
      go_wp2
      go_ret
      exact ⟨rfl, rfl⟩
    · rw [bB_no (by omega)]
      have hb : (j == 4) = false := beq_eq_false_iff_ne.2 h4
      go_enter Tryd.func48, Tryd.ntmps48
      go_wp2
      go_ret
      exact ⟨rfl, rfl⟩
  · have hb5 : (kk == 5) = false := beq_eq_false_iff_ne.2 h5
    by_cases h1 : kk ≤ j
    · by_cases h4 : j ≤ 4
      · rw [bB_yes (.inl ⟨h5, h1, h4⟩)]
        go_enter Tryd.func48, Tryd.ntmps48
        go_wp2
        go_ret
        exact ⟨rfl, rfl⟩
      · rw [bB_no (by omega)]
        go_enter Tryd.func48, Tryd.ntmps48
        go_wp2
        go_ret
        exact ⟨rfl, rfl⟩
    · rw [bB_no (by omega)]
      go_enter Tryd.func48, Tryd.ntmps48
      go_wp2
      go_ret
      exact ⟨rfl, rfl⟩
theorem okC_iff {j : Int} {v : Vec} : OkC j v ↔ ValidV v ∧ ((kindV v ≠ 5 ∧ kindV v ≤ j ∧ j ≤ 4) ∨ (kindV v = 5 ∧ j = 4)) := by
  unfold OkC
  constructor
  · rintro ⟨h, h1, h2, h3⟩
    refine ⟨h, ?_⟩
    by_cases h5 : kindV v = 5
    · exact .inr ⟨h5, h3 h5⟩
    · exact .inl ⟨h5, h2.resolve_right h5, h1⟩
  · rintro ⟨h, ⟨h5, h1, h2⟩ | ⟨h5, h4⟩⟩
    · exact ⟨h, h2, .inl h1, fun e => absurd e h5⟩
    · exact ⟨h, by omega, .inr h5, fun _ => h4⟩
/-- convertVector wherever CoerceVector calls it. -/
theorem implConvC (d : Nat) (v : Vec) (j : Int) (val : Value) (lo hi : Nat) (w : World) (hv : VecAt lo hi w d v val) (hhi : hi ≤ w.heap.size) (hsm : Small d v) (ok : OkC j v) (tab : Lib.TabIs Tryd.prog w "internal/strconv.uint64pow10" .u64 Lib.pow10Tab) :
    Calls Tryd.prog 49 #[val, .int .i64 j] w (ResV (coeD d j v) (coeV j v) w) := by
  obtain ⟨VV, hVV⟩ : ∃ V, v = V := ⟨_, rfl⟩
  have hV := hVV
  obtain ⟨kk, items, parts, names, cls, levels, code, env⟩ := v
  by_cases h4 : j = 4
  · subst h4
    have e := coe_list (d := d) rfl ok
    rw [e.1, e.2.2]
    exact implConvL d _ val lo hi w hv hhi hsm ok.1
  · have e := coe_flat (d := d) rfl ok h4
    rw [e.1, e.2.2]
    have hf : FlatOk kk items parts.length names cls levels code env := ok.1.1.flat
    have o2 : kk ≤ j ∨ kk = 5 := ok.2.2.1
    have o3 : kk = 5 → j = 4 := ok.2.2.2
    have o1 := ok.2.1
    have h5 : ¬ kk = 5 := fun e => h4 (o3 e)
    have hl := hf.h_len
    unfold lenV at hl
    rw [if_neg h5] at hl
    cases d with
    | zero => exact hsm.elim
    | succ d => exact implConv (d + 1) kk j items parts names cls levels code env val lo hi w hv hhi hf.h_kind.1 (o2.resolve_right h5) (by omega) (by omega) hsm.2.2.1 (fun i hi => (hf.h_items i hi).1) tab
set_option maxHeartbeats 4000000 in
theorem implCoerce (d : Nat) (v : Vec) (val : Value) (j : Int) (lo hi : Nat) (w : World) (hv : VecAt lo hi w d v val) (hhi : hi ≤ w.heap.size) (hsm : Small d v) (tab : Lib.TabIs Tryd.prog w "internal/strconv.uint64pow10" .u64 Lib.pow10Tab) :
    Calls Tryd.prog 15 #[val, .int .i64 j] w (ResVB (coeD d j v) (coeV j v) (coeB j v) w) := by
  have C1 := Lib.hid (fun (w1 : World) (hb : Below w.heap.size w w1) => implIsVector d v val lo hi w1 (hv.below hb hhi) (Nat.le_trans hhi hb.size) hsm)
  have CV := Lib.hid (fun (ok : OkC j v) (w1 : World) (hb : Below w.heap.size w w1) => implConvC d v j val lo hi w1 (hv.below hb hhi) (Nat.le_trans hhi hb.size) hsm ok (tab_below tab hb))
  obtain ⟨VV, hVV⟩ : ∃ V, v = V := ⟨_, rfl⟩
  rw [hVV] at C1 CV ⊢
  have CL := Lib.hid (fun (W : World) => implLater j (kindV VV) W)
  have XK := Lib.hid (show kindV VV = kindV v by rw [hVV])
  obtain ⟨kk, items, parts, names, cls, levels, code, env⟩ := v
  have XK := Lib.hid (show kindV VV = kk from XK.out)
  rw [XK.out] at CL
  obtain ⟨d', ai, ci, ap, cp, an, cn, ac, cc, al, cl, ed, rfl, hI, hN, hC, hL, hP⟩ := vecAt_open hv
  clear hv hI hN hC hL hP hsm ed hVV tab
  go_enter Tryd.func15, Tryd.ntmps15
  go_wp2_with fail
  obtain ⟨w1, hw1⟩ : ∃ W, (w.alloc (.cells #[.int .i64 kk, .slice ai items.length ci, .slice ap parts.length cp, .slice an names.length cn, .slice ac cls.length cc, .slice al levels.length cl, .int .i64 code, .int .i64 env] 31)).alloc (.cells #[.int .i64 0, .slice none 0 0, .slice none 0 0, .slice none 0 0, .slice none 0 0, .slice none 0 0, .int .i64 0, .int .i64 0] 31) = W := ⟨_, rfl⟩
  have hsz : (w.alloc (.cells #[.int .i64 kk, .slice ai items.length ci, .slice ap parts.length cp, .slice an names.length cn, .slice ac cls.length cc, .slice al levels.length cl, .int .i64 code, .int .i64 env] 31)).heap.size = w.heap.size + 1 := by simp
  have B1 := Lib.hid (show Below w.heap.size w w1 from hw1 ▸ below2 w _ _)
  have KA := Lib.hid (show w1.heap[w.heap.size]? = some (.cells #[.int .i64 kk, .slice ai items.length ci, .slice ap parts.length cp, .slice an names.length cn, .slice ac cls.length cc, .slice al levels.length cl, .int .i64 code, .int .i64 env] 31 (0, 0)) from hw1 ▸ blk_old (blk_new w _ rfl))
  have KR := Lib.hid (show w1.heap[w.heap.size + 1]? = some (.cells #[.int .i64 0, .slice none 0 0, .slice none 0 0, .slice none 0 0, .slice none 0 0, .slice none 0 0, .int .i64 0, .int .i64 0] 31 (0, 0)) from hw1 ▸ blk_new _ _ hsz.symm)
  rw [hw1]
  clear hw1 hsz
  with_reducible refine (C1.out _ B1.out).mono ?_
  rintro e w2 ⟨rfl, b⟩
  have B2 := Lib.hid (below_then B1.out b)
  have KA := Lib.hid (blk_below b KA.out)
  have KR := Lib.hid (blk_below b KR.out)
  clear b
  by_cases q : ValidV VV
  · rw [bB_yes q]
    obtain ⟨k0, k1, k2, k3, k4, k5, k6, k7⟩ := vec8 KA.out
    go_wp2_with fail
    with_reducible refine (CL.out _).mono ?_
    rintro e w3 ⟨rfl, rfl⟩
    by_cases o : (kk ≠ 5 ∧ kk ≤ j ∧ j ≤ 4) ∨ (kk = 5 ∧ j = 4)
    · rw [bB_yes o]
      have ok : OkC j VV := okC_iff.2 ⟨q, by rw [XK.out]; exact o⟩
      have XB := Lib.hid (show coeB j VV = true from bB_yes ok)
      have CW := Lib.hid (CV.out ok)
      clear o ok q CV
      go_wp2_with fail
      with_reducible refine (CW.out _ B2.out).mono ?_
      rintro e w4 ⟨y, rfl, ho, b⟩
      obtain ⟨yk, ya1, yn1, ym1, ya2, yn2, ym2, ya3, yn3, ym3, ya4, yn4, ym4, ya5, yn5, ym5, yc, ye, rfl⟩ := ho.agg
      have HR2 := (Array.getElem?_eq_some_iff.1 KR.out).1
      have B4 := Lib.hid (below_then B2.out b)
      have KR4 := Lib.hid (blk_below b KR.out)
      have HO := Lib.hid ho
      clear ho b k0 k1 k2 k3 k4 k5 k6 k7
      obtain ⟨z0, z1, z2, z3, z4, z5, z6, z7⟩ := vec8 KR4.out
      obtain ⟨f0, f1, f2, f3, f4, f5, f6, f7⟩ := free8 KR4.out
      go_wp2
      rw [XB.out]
      exact vec_endS rfl rfl rfl rfl KR4.out ⟨_, rfl, (HO.out.put8 HR2 _ _ _ _ _ _ _ _).wide (by omega) (by rw [put8_size]; exact Nat.le_refl _), put8_below B4.out (Nat.le_succ _)⟩
    · rw [bB_no o]
      have nk : ¬ OkC j VV := fun h => o (by have := (okC_iff.1 h).2; rwa [XK.out] at this)
      have XV := Lib.hid (coe_no (d := d) nk)
      clear o nk q CV
      obtain ⟨z0, z1, z2, z3, z4, z5, z6, z7⟩ := vec8 KR.out
      obtain ⟨f0, f1, f2, f3, f4, f5, f6, f7⟩ := free8 KR.out
      go_wp2
      rw [XV.out.1, XV.out.2.1, XV.out.2.2]
      exact vec_endS rfl rfl rfl rfl KR.out (zeroB _ w _ (put8_below B2.out (Nat.le_succ _)))
  · rw [bB_no q]
    have XV := Lib.hid (coe_no (d := d) (j := j) (fun h => q h.1))
    clear q CV
    obtain ⟨z0, z1, z2, z3, z4, z5, z6, z7⟩ := vec8 KR.out
    obtain ⟨f0, f1, f2, f3, f4, f5, f6, f7⟩ := free8 KR.out
    go_wp2
    rw [XV.out.1, XV.out.2.1, XV.out.2.2]
    exact vec_endS rfl rfl rfl rfl KR.out (zeroB _ w _ (put8_below B2.out (Nat.le_succ _)))
end Go.Proofs.YtjpdnabfpiengaaDoor

/- What CoerceVector answers is small and fits. -/
namespace Go.Proofs.YtjpdnabfpiengaaDoor
open Go.RowKit
set_option maxRecDepth 100000
set_option linter.unusedVariables false

theorem cnvL_in {kk j : Int} {items : List It} (hit : ∀ i, i < items.length → ItOk kk (items.getD i noI)) (hk : kk ≤ j) (hj : j ≤ 3) : ∀ x ∈ cnvL kk j items, ItOk j x := by
  intro x hx
  obtain ⟨i, hi, rfl⟩ := List.mem_map.1 (show x ∈ (List.range items.length).map (fun i => cnvI kk j (items.getD i noI)) from hx)
  exact cnv_ok (hit i (List.mem_range.1 hi)) hk hj
theorem small_list {d : Nat} {P : List Vec} {names : List ByteArray} (lp : P.length ≤ 1048576) (ln : names.length ≤ 1048576) (hs : ∀ s ∈ names, s.size ≤ 1048576) (hp : ∀ p ∈ P, Small d p) : Small (d + 1) (.mk 4 [] P names [] [] 0 0) := by
  unfold Small
  exact ⟨Nat.zero_le _, lp, ln, Nat.zero_le _, Nat.zero_le _, (fun _ h => by cases h), hs, (fun _ h => by cases h), (fun _ h => by cases h), hp⟩
theorem fits_list {d : Nat} {P : List Vec} {names : List ByteArray} (lp : P.length ≤ maxLen) (ln : names.length ≤ maxLen) (hs : ∀ s ∈ names, s.size ≤ maxLen) (hp : ∀ p ∈ P, Fits d p) : Fits (d + 1) (.mk 4 [] P names [] [] 0 0) := by
  unfold Fits
  exact ⟨⟨by decide, by decide⟩, ⟨by decide, by decide⟩, ⟨by decide, by decide⟩, Nat.zero_le _, lp, ln, Nat.zero_le _, Nat.zero_le _, (fun _ h => by cases h), hs, (fun _ h => by cases h), (fun _ h => by cases h), hp⟩
theorem fits_one {k : Int} {x : It} (hk : -9223372036854775808 ≤ k ∧ k ≤ 9223372036854775807) (h : InB x) : Fits 1 (vecOf k [x]) := fits_vecOf hk (by simp) (fun y hy => by obtain rfl := List.mem_singleton.1 hy; exact h)
theorem coe_small {d : Nat} {j : Int} {v : Vec} (hsm : Small d v) (ok : OkC j v) : Small (coeD d j v) (coeV j v) := by
  obtain ⟨kk, items, parts, names, cls, levels, code, env⟩ := v
  have hf : FlatOk kk items parts.length names cls levels code env := ok.1.1.flat
  cases d with
  | zero => exact hsm.elim
  | succ d =>
    obtain ⟨s1, s2, s3, s4, s5, s6, s7, s8, s9, s10⟩ := id hsm
    by_cases h4 : j = 4
    · subst h4
      have e := coe_list (d := d + 1) rfl ok
      rw [e.1, e.2.2]
      by_cases h5 : kk = 5
      · subst h5
        rw [elmD_fun, elems_fun rfl]
        exact small_list (by simp) s3 s7 (fun p hp => by obtain rfl := List.mem_singleton.1 hp; exact hsm)
      · by_cases h44 : kk = 4
        · subst h44
          rw [elmD_list rfl, elems_list]
          exact small_list s2 s3 s7 s10
        · rw [elmD_its h5 h44, elems_items h5 h44]
          exact small_list (by rw [List.length_map]; exact s1) s3 s7 (fun p hp => by obtain ⟨x, hx, rfl⟩ := List.mem_map.1 hp; exact small_one (s6 x hx))
    · have e := coe_flat (d := d + 1) rfl ok h4
      rw [e.1, e.2.2]
      have o2 : kk ≤ j ∨ kk = 5 := ok.2.2.1
      have o3 : kk = 5 → j = 4 := ok.2.2.2
      have o1 := ok.2.1
      exact small_mkN (by rw [cnvL_len]; exact s1) (fun x hx => by have := (itOk_size (cnvL_in (fun i hi => (hf.h_items i hi).1) (o2.resolve_right (fun e => h4 (o3 e))) (by omega) x hx)).2; omega) s3 s7
theorem coe_fits {d : Nat} {j : Int} {v : Vec} (hsm : Small d v) (hfi : Fits d v) (ok : OkC j v) : Fits (coeD d j v) (coeV j v) := by
  obtain ⟨kk, items, parts, names, cls, levels, code, env⟩ := v
  have hf : FlatOk kk items parts.length names cls levels code env := ok.1.1.flat
  cases d with
  | zero => exact hsm.elim
  | succ d =>
    obtain ⟨s1, s2, s3, s4, s5, s6, s7, s8, s9, s10⟩ := id hsm
    obtain ⟨f1, f2, f3, f4, f5, f6, f7, f8, f9, f10, f11, f12, f13⟩ := id hfi
    by_cases h4 : j = 4
    · subst h4
      have e := coe_list (d := d + 1) rfl ok
      rw [e.1, e.2.2]
      by_cases h5 : kk = 5
      · subst h5
        rw [elmD_fun, elems_fun rfl]
        exact fits_list (by unfold maxLen; simp) f6 f10 (fun p hp => by obtain rfl := List.mem_singleton.1 hp; exact hfi)
      · by_cases h44 : kk = 4
        · subst h44
          rw [elmD_list rfl, elems_list]
          exact fits_list f5 f6 f10 f13
        · rw [elmD_its h5 h44, elems_items h5 h44]
          exact fits_list (by rw [List.length_map]; exact f4) f6 f10 (fun p hp => by obtain ⟨x, hx, rfl⟩ := List.mem_map.1 hp; exact fits_one f1 (f9 x hx))
    · have e := coe_flat (d := d + 1) rfl ok h4
      rw [e.1, e.2.2]
      have o2 : kk ≤ j ∨ kk = 5 := ok.2.2.1
      have o3 : kk = 5 → j = 4 := ok.2.2.2
      have o1 := ok.2.1
      have hkk := hf.h_kind
      exact fits_mkN (by have := o2.resolve_right (fun e => h4 (o3 e)); omega) (by rw [cnvL_len]; exact s1) (fun x hx => (itOk_size (cnvL_in (fun i hi => (hf.h_items i hi).1) (o2.resolve_right (fun e => h4 (o3 e))) (by omega) x hx)).1) s3 s7
end Go.Proofs.YtjpdnabfpiengaaDoor

/- A loop that appends vectors to a list: what it keeps. -/
namespace Go.Proofs.YtjpdnabfpiengaaDoor
open Go.RowKit
set_option maxRecDepth 100000
set_option linter.unusedVariables false

structure AppP (w w0 wr : World) (b : Nat) (kind : Int) (d : Nat) (S : List Vec) (k : Nat) (v : Value) (na : Option Addr) (nn nc : Nat) : Prop where
  vec : wr.heap[b]? = some (.cells #[.int .i64 kind, .slice none 0 0, v, .slice na nn nc, .slice none 0 0, .slice none 0 0, .int .i64 0, .int .i64 0] 31 (0, 0))
  ex : ∃ (vals : List Value) (Fs : List (List Nat)), vals.length = k ∧ Fs.length = k ∧ wr.ownsRow w0.heap.size 31 8 v k (vals.flatMap cl8) ∧
    (∀ i, i < k → OwnVec wr d (S.getD i noV) (vals.getD i undef) (Fs.getD i [])) ∧ Fs.flatten.Nodup ∧ (∀ g ∈ Fs.flatten, w0.heap.size ≤ g ∧ g < wr.heap.size ∧ v.ownBlock ≠ some g)
  kept : ∀ g, g < w0.heap.size → g ≠ b → wr.heap[g]? = w0.heap[g]?
  size : w0.heap.size ≤ wr.heap.size
  below : Below w.heap.size w wr
  lt : b < w0.heap.size
  ge : w.heap.size ≤ b
theorem AppP.start {w w0 : World} {b : Nat} {kind : Int} {d : Nat} {S : List Vec} {na : Option Addr} {nn nc : Nat} (h : w0.heap[b]? = some (.cells #[.int .i64 kind, .slice none 0 0, .slice none 0 0, .slice na nn nc, .slice none 0 0, .slice none 0 0, .int .i64 0, .int .i64 0] 31 (0, 0))) (hB : Below w.heap.size w w0) (hb : w.heap.size ≤ b) : AppP w w0 w0 b kind d S 0 (.slice none 0 0) na nn nc :=
  ⟨h, ⟨[], [], rfl, rfl, ⟨rfl, .inl ⟨rfl, rfl⟩⟩, fun i h => absurd h (Nat.not_lt_zero _), List.nodup_nil, fun b h => by cases h⟩, fun _ _ _ => rfl, Nat.le_refl _, hB, (Array.getElem?_eq_some_iff.1 h).1, hb⟩
theorem AppP.blk {w w0 wr : World} {b : Nat} {kind : Int} {d : Nat} {S : List Vec} {k : Nat} {v : Value} {na : Option Addr} {nn nc : Nat} (h : AppP w w0 wr b kind d S k v na nn nc) {g : Nat} {o : Obj} (hg : w0.heap[g]? = some o) (hn : g ≠ b) : wr.heap[g]? = some o := (h.kept g (Array.getElem?_eq_some_iff.1 hg).1 hn).trans hg
theorem AppP.row {w w0 wr : World} {b : Nat} {kind : Int} {d : Nat} {S : List Vec} {k : Nat} {v : Value} {na : Option Addr} {nn nc : Nat} (h : AppP w w0 wr b kind d S k v na nn nc) : ∀ j, v.ownBlock = some j → w0.heap.size ≤ j ∧ j < wr.heap.size := by
  obtain ⟨vals, Fs, h1, h2, h3, _⟩ := h.ex
  exact h3.lt
theorem AppP.next {w w0 wr : World} {b : Nat} {kind : Int} {d : Nat} {S : List Vec} {k : Nat} {v : Value} {na : Option Addr} {nn nc : Nat} {w1 W : World} {v' : Value} {c0 c1 c2 c3 c4 c5 c6 c7 : Value} {vals : List Value} {Fs : List (List Nat)} (h : AppP w w0 wr b kind d S k v na nn nc) (hb : Below wr.heap.size wr w1) (ho : Own d (S.getD k noV) (.agg #[c0, c1, c2, c3, c4, c5, c6, c7]) wr.heap.size w1.heap.size w1)
    (h1 : vals.length = k) (h2 : Fs.length = k) (h4 : ∀ i, i < k → OwnVec wr d (S.getD i noV) (vals.getD i undef) (Fs.getD i [])) (h5 : Fs.flatten.Nodup) (h6 : ∀ g ∈ Fs.flatten, w0.heap.size ≤ g ∧ g < wr.heap.size ∧ v.ownBlock ≠ some g)
    (hK : W.heap[b]? = some (.cells (#[.int .i64 kind, .slice none 0 0, v, .slice na nn nc, .slice none 0 0, .slice none 0 0, .int .i64 0, .int .i64 0].setIfInBounds 2 v') 31 (0, 0))) (hO : W.ownsRow w0.heap.size 31 8 v' (k + 1) (vals.flatMap cl8 ++ [c0, c1, c2, c3, c4, c5, c6, c7])) (hB : Below w.heap.size w W) (hZ : w1.heap.size ≤ W.heap.size) (hM : Moved w1 v v')
    (hG : ∀ g, g < w1.heap.size → g ≠ b → v.ownBlock ≠ some g → W.heap[g]? = w1.heap[g]?) : AppP w w0 W b kind d S (k + 1) v' na nn nc := by
  obtain ⟨F, g1, g2, g3⟩ := ho.out
  have hbs := hb.size
  have hsz := h.size
  have hlt := h.lt
  have hown := h.row
  have old : ∀ g ∈ Fs.flatten, W.heap[g]? = wr.heap[g]? := fun g hg => by
    have q := h6 g hg
    exact (hG g (by omega) (by omega) q.2.2).trans (hb.block g q.2.1)
  have new : ∀ g ∈ F, W.heap[g]? = w1.heap[g]? := fun g hg => by
    have q := g3 g hg
    exact hG g q.2 (by omega) (fun e => by have := hown g e; omega)
  have hv : ∀ g, v'.ownBlock = some g → v.ownBlock = some g ∨ w1.heap.size ≤ g := fun g e => by
    rcases hM with q | ⟨g', q, hg'⟩
    · exact .inl (q ▸ e)
    · rw [q] at e; obtain rfl := Option.some.inj e; exact .inr hg'
  refine ⟨hK, ⟨vals ++ [Value.agg #[c0, c1, c2, c3, c4, c5, c6, c7]], Fs ++ [F], by simp [h1], by simp [h2], ?_, fun i hi => ?_, ?_, fun g hg => ?_⟩, fun g hg hn => (hG g (by omega) hn (fun e => by have := hown g e; omega)).trans ((hb.block g (by omega)).trans (h.kept g hg hn)), by omega, hB, hlt, h.ge⟩
  · rw [List.flatMap_append]
    exact hO
  · by_cases e : i = k
    · subst e
      have e1 : (vals ++ [Value.agg #[c0, c1, c2, c3, c4, c5, c6, c7]]).getD i undef = .agg #[c0, c1, c2, c3, c4, c5, c6, c7] := by rw [List.getD_eq_getElem?_getD, List.getElem?_append_right (by omega)]; simp [h1]
      have e2 : (Fs ++ [F]).getD i [] = F := by rw [List.getD_eq_getElem?_getD, List.getElem?_append_right (by omega)]; simp [h2]
      rw [e1, e2]
      exact g1.kept _ _ _ _ new
    · have e1 : (vals ++ [Value.agg #[c0, c1, c2, c3, c4, c5, c6, c7]]).getD i undef = vals.getD i undef := by rw [List.getD_eq_getElem?_getD, List.getD_eq_getElem?_getD, List.getElem?_append_left (by omega)]
      have e2 : (Fs ++ [F]).getD i [] = Fs.getD i [] := by rw [List.getD_eq_getElem?_getD, List.getD_eq_getElem?_getD, List.getElem?_append_left (by omega)]
      rw [e1, e2]
      exact (h4 i (by omega)).kept _ _ _ _ (fun b hb' => old b (mem_flat (by omega) hb'))
  · rw [List.flatten_append, List.nodup_append]
    refine ⟨h5, by simpa using g2, fun x hx y hy e => ?_⟩
    have h7 := h6 x hx
    have h8 := g3 y (by simpa using hy)
    omega
  · rw [List.flatten_append, List.mem_append] at hg
    rcases hg with hg | hg
    · have h7 := h6 g hg
      refine ⟨h7.1, by omega, fun e => ?_⟩
      rcases hv g e with q | q
      · exact h7.2.2 q
      · omega
    · have hg' : g ∈ F := by simpa using hg
      have h7 := g3 g hg'
      refine ⟨by omega, by omega, fun e => ?_⟩
      rcases hv g e with q | q
      · have := hown g q; omega
      · omega
theorem AppP.parts {w w0 wr : World} {b : Nat} {kind : Int} {d : Nat} {parts : List Vec} {v : Value} {na : Option Addr} {nn nc : Nat} (h : AppP w w0 wr b kind d parts parts.length v na nn nc) : ∃ F, OwnParts wr d v parts F ∧ F.Nodup ∧ ∀ b ∈ F, w0.heap.size ≤ b ∧ b < wr.heap.size := by
  obtain ⟨vals, Fs, h1, h2, ⟨hl, h3⟩, h4, h5, h6⟩ := h.ex
  rcases h3 with ⟨rfl, h0⟩ | ⟨g, cap, cur, rfl, hB, hg, hc, _, hs, ht⟩
  · have hp : parts = [] := List.eq_nil_of_length_eq_zero h0
    subst hp
    exact ⟨[], ⟨none, 0, rfl, Nat.le_refl _, .inl ⟨rfl, rfl⟩⟩, List.nodup_nil, fun _ hb => by cases hb⟩
  · have hgl := (Array.getElem?_eq_some_iff.1 hg).1
    refine ⟨g :: Fs.flatten, ⟨_, cap, rfl, hc, .inr ⟨g, cur, Fs, rfl, h2, rfl, hg, by omega, fun i hi => ⟨_, h4 i hi, ?_⟩⟩⟩, ?_, ?_⟩
    · obtain ⟨c0, c1, c2, c3, c4, c5, c6, c7, e, m0, m1, m2, m3, m4, m5, m6, m7⟩ := flat8_at vals (RowV.is8 h1 h4) i (by omega)
      have key : ∀ j, j < parts.length * 8 → cur[j]? = (vals.flatMap cl8)[j]? := fun j hj => by
        rw [← ht, List.getElem?_take_of_lt hj, Array.getElem?_toList]
      refine ⟨c0, c1, c2, c3, c4, c5, c6, c7, e, ?_, ?_, ?_, ?_, ?_, ?_, ?_, ?_⟩
      · rw [key _ (by omega)]; exact m0
      · rw [key _ (by omega)]; exact m1
      · rw [key _ (by omega)]; exact m2
      · rw [key _ (by omega)]; exact m3
      · rw [key _ (by omega)]; exact m4
      · rw [key _ (by omega)]; exact m5
      · rw [key _ (by omega)]; exact m6
      · rw [key _ (by omega)]; exact m7
    · rw [List.nodup_cons]
      exact ⟨fun hm => (h6 g hm).2.2 rfl, h5⟩
    · intro b hb
      rcases List.mem_cons.1 hb with rfl | hb
      · exact ⟨hB, hgl⟩
      · exact ⟨(h6 b hb).1, (h6 b hb).2.1⟩
/-- A row of one vector. -/
theorem own_oneP {w : World} {d lo hi : Nat} {v : Vec} {c0 c1 c2 c3 c4 c5 c6 c7 : Value} (h : Own d v (.agg #[c0, c1, c2, c3, c4, c5, c6, c7]) lo hi w) (hh : hi ≤ w.heap.size) : ∃ F, OwnParts (w.alloc (.cells #[c0, c1, c2, c3, c4, c5, c6, c7] 31)) d (.slice (some ⟨w.heap.size, 0, none⟩) 1 1) [v] F ∧ F.Nodup ∧ ∀ g ∈ F, (lo ≤ g ∧ g < hi) ∨ g = w.heap.size := by
  obtain ⟨F, g1, g2, g3⟩ := h.out
  have hb := blk_new w (.cells #[c0, c1, c2, c3, c4, c5, c6, c7] 31) rfl
  refine ⟨w.heap.size :: F, ⟨_, 1, rfl, Nat.le_refl _, .inr ⟨w.heap.size, _, [F], by simp, rfl, rfl, hb, Nat.le_refl _, fun i hi' => ?_⟩⟩, List.nodup_cons.2 ⟨fun hm => by have := (g3 _ hm).2; omega, g2⟩, fun g hg => ?_⟩
  · obtain rfl : i = 0 := by have : i < 1 := hi'; omega
    exact ⟨_, g1.kept _ _ _ _ (fun b hm => (below1 w _).block b (Nat.lt_of_lt_of_le (g3 b hm).2 hh)), ⟨_, _, _, _, _, _, _, _, rfl, rfl, rfl, rfl, rfl, rfl, rfl, rfl, rfl⟩⟩
  · rcases List.mem_cons.1 hg with rfl | hm
    · exact .inr rfl
    · exact .inl (g3 g hm)
end Go.Proofs.YtjpdnabfpiengaaDoor

/- CoerceVector of the reference. -/
namespace Go.Proofs.YtjpdnabfpiengaaDoor
open Go.RowKit
set_option maxRecDepth 100000
set_option linter.unusedVariables false

set_option maxHeartbeats 16000000 in
theorem specCoerce (d : Nat) (v : Vec) (val : Value) (j : Int) (lo hi : Nat) (w : World) (hv : VecAt lo hi w d v val) (hhi : hi ≤ w.heap.size) (hsm : Small d v) :
    Calls Tryd.prog 14 #[val, .int .i64 j] w (ResVB (coeD d j v) (coeV j v) (coeB j v) w) := by
  have C1 := Lib.hid (fun (w1 : World) (hb : Below w.heap.size w w1) => specIsVector d v val lo hi w1 (hv.below hb hhi) (Nat.le_trans hhi hb.size) hsm)
  have IV := Lib.hid (fun (ok : OkC j v) (W : World) (y : Value) (h : VecAt 0 W.heap.size W (coeD d j v) (coeV j v) y) => (by have q := specIsVector (coeD d j v) (coeV j v) y 0 W.heap.size W h (Nat.le_refl _) (coe_small hsm ok); rw [bB_yes (coe_valid ok)] at q; exact q : Calls Tryd.prog 43 #[y] W (fun e w' => e = .returned (.bool true) ∧ Below W.heap.size W w')))
  have CF := Lib.hid (fun (q : ValidV v) (w1 : World) (hb : Below w.heap.size w w1) => (scvAll d).out v val lo hi w1 (hv.below hb hhi) (Nat.le_trans hhi hb.size) hsm (allIs_of d 3 v (Nat.le_refl _) q.1) (by have := q.1.flat.parts; omega))
  obtain ⟨VV, hVV⟩ : ∃ V, v = V := ⟨_, rfl⟩
  rw [hVV] at C1 IV CF ⊢
  have PI := Lib.hid (fun (q : ValidV VV) (d i : Nat) (hi : i < (partsV VV).length) => part_is q.1 d i hi)
  have hPV : partsV VV = partsV v := by rw [hVV]
  obtain ⟨kk, items, parts, names, cls, levels, code, env⟩ := v
  have hPV : partsV VV = parts := hPV
  rw [hPV] at PI
  obtain ⟨d', ai, ci, ap, cp, an, cn, ac, cc, al, cl, ed, rfl, hI, hN, hC, hL, hP⟩ := vecAt_open hv
  have ln : names.length ≤ 1048576 := by subst ed; exact hsm.2.2.1
  have hsp : ∀ i, i < parts.length → Small d' (parts.getD i noV) := fun i hi => by subst ed; exact hsm.part hi
  have FL := Lib.hid (fun (q : ValidV VV) => (by rw [← hVV] at q; exact q.1.flat : FlatOk kk items parts.length names cls levels code env))
  have HT := Lib.hid (fun (w1 : World) (hb : Below w.heap.size w w1) => hN.below hb hhi)
  have HI := Lib.hid (fun (w1 : World) (hb : Below w.heap.size w w1) => hI.below hb hhi)
  have CP := Lib.hid (fun (q : ValidV VV) (w1 : World) (hb : Below w.heap.size w w1) => (scpAll d').out parts ap cp lo hi w1 (hP.below hb hhi) (Nat.le_trans hhi hb.size) hsp (fun i hi => ⟨isV_three (by omega) (PI.out q d' i hi).2.2, (PI.out q d' i hi).1⟩) (by have h := q.1.flat.parts; rw [hPV] at h; omega))
  have CI := Lib.hid (fun (q : ValidV VV) (hkj : kk ≤ j) (hj3 : j ≤ 3) (k : Nat) (W : World) (hk : k < items.length) (hb : Below w.heap.size w W) => specCnv kk j (items.getD k noI) W ((FL.out q).h_items k hk).1 (FL.out q).h_kind.1 hkj hj3)
  have OC := Lib.hid (show OkC j VV ↔ ValidV VV ∧ ((kk ≠ 5 ∧ kk ≤ j ∧ j ≤ 4) ∨ (kk = 5 ∧ j = 4)) by rw [okC_iff, ← hVV]; exact Iff.rfl)
  have XL := Lib.hid (fun (o : OkC j VV) (h : j = 4) => (by subst h; rw [← hVV] at o ⊢; exact coe_list rfl o : coeV j VV = .mk 4 [] (elems VV) names [] [] 0 0 ∧ coeB j VV = true ∧ coeD d j VV = elmD d VV + 1))
  have XF := Lib.hid (fun (o : OkC j VV) (h : ¬ j = 4) => (by rw [← hVV] at o ⊢; exact coe_flat rfl o h : coeV j VV = mkN j (cnvL kk j items) names ∧ coeB j VV = true ∧ coeD d j VV = 1))
  have XA := Lib.hid (fun (h : kk = 4) => (by subst h; rw [← hVV]; exact ⟨elems_list, elmD_list ed⟩ : elems VV = parts ∧ elmD d VV = d'))
  have XG := Lib.hid (fun (h : kk = 5) => (by subst h; refine ⟨elems_fun hVV.symm, ?_⟩; rw [← hVV]; exact elmD_fun : elems VV = [VV] ∧ elmD d VV = d))
  have XC := Lib.hid (fun (h5 : kk ≠ 5) (h4 : kk ≠ 4) => (by rw [← hVV]; exact ⟨elems_items h5 h4, elmD_its h5 h4⟩ : elems VV = items.map (fun x => vecOf kk [x]) ∧ elmD d VV = 1))
  have LI := Lib.hid (fun (W : World) => l1In_any j 0 4 W)
  clear hv hI hN hC hL hP hsm hsp hVV PI hPV ed
  go_enter Tryd.func14, Tryd.ntmps14
  go_wp2_with fail
  obtain ⟨w1, hw1⟩ : ∃ W, (w.alloc (.cells #[.int .i64 kk, .slice ai items.length ci, .slice ap parts.length cp, .slice an names.length cn, .slice ac cls.length cc, .slice al levels.length cl, .int .i64 code, .int .i64 env] 31)).alloc (.cells #[.int .i64 0, .slice none 0 0, .slice none 0 0, .slice none 0 0, .slice none 0 0, .slice none 0 0, .int .i64 0, .int .i64 0] 31) = W := ⟨_, rfl⟩
  have hsz : (w.alloc (.cells #[.int .i64 kk, .slice ai items.length ci, .slice ap parts.length cp, .slice an names.length cn, .slice ac cls.length cc, .slice al levels.length cl, .int .i64 code, .int .i64 env] 31)).heap.size = w.heap.size + 1 := by simp
  have B1 := Lib.hid (show Below w.heap.size w w1 from hw1 ▸ below2 w _ _)
  have KA := Lib.hid (show w1.heap[w.heap.size]? = some (.cells #[.int .i64 kk, .slice ai items.length ci, .slice ap parts.length cp, .slice an names.length cn, .slice ac cls.length cc, .slice al levels.length cl, .int .i64 code, .int .i64 env] 31 (0, 0)) from hw1 ▸ blk_old (blk_new w _ rfl))
  have KR := Lib.hid (show w1.heap[w.heap.size + 1]? = some (.cells #[.int .i64 0, .slice none 0 0, .slice none 0 0, .slice none 0 0, .slice none 0 0, .slice none 0 0, .int .i64 0, .int .i64 0] 31 (0, 0)) from hw1 ▸ blk_new _ _ hsz.symm)
  rw [hw1]
  clear hw1 hsz
  with_reducible refine (C1.out _ B1.out).mono ?_
  rintro e w2 ⟨rfl, b⟩
  have B2 := Lib.hid (below_then B1.out b)
  have KA := Lib.hid (blk_below b KA.out)
  have KR := Lib.hid (blk_below b KR.out)
  clear b
  by_cases q : ValidV VV
  · rw [bB_yes q]
    have hkk := (FL.out q).h_kind
    have Q := Lib.hid q
    obtain ⟨k0, k1, k2, k3, k4, k5, k6, k7⟩ := vec8 KA.out
    go_wp2_with fail
    with_reducible refine (LI.out _).mono ?_
    rintro e w3 ⟨rfl, rfl⟩
    by_cases r : 0 ≤ j ∧ j ≤ 4
    · rw [decide_eq_true r]
      by_cases o : (kk ≠ 5 ∧ kk ≤ j ∧ j ≤ 4) ∨ (kk = 5 ∧ j = 4)
      · have ok := OC.out.2 ⟨q, o⟩
        replace IV := Lib.hid (IV.out ok)
        replace CF := Lib.hid (CF.out q)
        replace CP := Lib.hid (CP.out q)
        have FLQ := FL.out q
        have li := FLQ.h_len
        have h0 := FLQ.h_list
        have h5f := FLQ.h_func
        unfold lenV at li
        by_cases h5 : kk = 5
        · have XE := Lib.hid (XL.out ok (by omega))
          have XS := XG.out h5
          have EV := Lib.hid (XE.out.1.trans (by rw [XS.1]))
          have ED := Lib.hid (XE.out.2.2.trans (by rw [XS.2]))
          rw [EV.out, ED.out] at IV
          have XB := Lib.hid XE.out.2.1
          obtain rfl : j = 4 := by omega
          have hi0 := (h5f h5).1
          subst h5
          clear o ok q r XS CP CI OC XL XF XA XG XC FL FLQ li h0 h5f hkk
          rw [hi0] at KA CF ⊢
          clear hi0
          obtain ⟨W3, hW3⟩ : ∃ W, w2.alloc (.cells #[] 9) = W := ⟨_, rfl⟩
          have b3 : Below w2.heap.size w2 W3 := hW3 ▸ below1 w2 _
          have KS := Lib.hid (show W3.heap[w2.heap.size]? = some (.cells #[] 9 (0, 0)) from hW3 ▸ blk_new w2 _ rfl)
          have B3 := Lib.hid (below_then B2.out b3)
          have KA3 := Lib.hid (blk_below b3 KA.out)
          have KR3 := Lib.hid (blk_below b3 KR.out)
          have EW3 := Lib.hid hW3
          have HL2 := Lib.hid (Array.getElem?_eq_some_iff.1 KR.out).1
          clear b3 hW3 k0 k1 k2 k3 k4 k5 k6 k7
          obtain ⟨k0, k1, k2, k3, k4, k5, k6, k7⟩ := vec8 KA.out
          have hltA := (Array.getElem?_eq_some_iff.1 KA.out).1
          go_wp2_with (at_builtin; go_loud (rw [EW3.out]; refine wpList_copyTexts rfl _ _ rfl w2.heap.size _ rfl (.inr ⟨w2.heap.size, Nat.le_refl _, rfl, KS.out⟩) an cn names lo hi rfl (HT.out _ B3.out) ln (Nat.le_of_lt (Array.getElem?_eq_some_iff.1 KS.out).1) ?_))
          intro v' w5 hcp hb5
          obtain ⟨na, nc, FN, rfl, hT, hnd, hrg, hcap⟩ := hcp
          have B5 := Lib.hid (B3.out.trans (hb5.mono (by have := HL2.out; omega)))
          have KA5 := Lib.hid ((hb5.block _ (Array.getElem?_eq_some_iff.1 KA.out).1).trans KA3.out)
          have KR5 := Lib.hid ((hb5.block _ (Array.getElem?_eq_some_iff.1 KR.out).1).trans KR3.out)
          have S5 := Lib.hid hb5.size
          have S3 := Lib.hid (Array.getElem?_eq_some_iff.1 KS.out).1
          obtain ⟨w0, hw0⟩ : ∃ W, w5.alloc (.cells #[.int .i64 4, .slice none 0 0, .slice none 0 0, .slice na names.length nc, .slice none 0 0, .slice none 0 0, .int .i64 0, .int .i64 0] 31) = W := ⟨_, rfl⟩
          have b0 : Below w5.heap.size w5 w0 := hw0 ▸ below1 w5 _
          have B0 := Lib.hid (below_then B5.out b0)
          have KB := Lib.hid (show w0.heap[w5.heap.size]? = some (.cells #[.int .i64 4, .slice none 0 0, .slice none 0 0, .slice na names.length nc, .slice none 0 0, .slice none 0 0, .int .i64 0, .int .i64 0] 31 (0, 0)) from hw0 ▸ blk_new w5 _ rfl)
          have KA0 := Lib.hid (blk_below b0 KA5.out)
          have KR0 := Lib.hid (blk_below b0 KR5.out)
          have HT0 := Lib.hid (show OwnTxs w0 na names FN from hT.kept (fun g hg => b0.block g (hrg g hg).2))
          have HRG := Lib.hid hrg
          have HND := Lib.hid hnd
          have HCP := Lib.hid hcap
          have EW0 := Lib.hid hw0
          have Z0 := Lib.hid (show w0.heap.size = w5.heap.size + 1 by rw [← hw0]; simp)
          clear hltA
          have hltA := (Array.getElem?_eq_some_iff.1 KA5.out).1
          have hltR := (Array.getElem?_eq_some_iff.1 KR5.out).1
          clear b0 hw0 hT hrg hnd hcap k0 k1 k2 k3 k4 k5 k6 k7 hb5 KA3 KR3
          obtain ⟨k0, k1, k2, k3, k4, k5, k6, k7⟩ := vec8 KA5.out
          go_wp2_with fail
          rw [EW0.out]
          with_reducible refine (CF.out _ B0.out).mono ?_
          rintro e w6 ⟨y, rfl, ho, b⟩
          obtain ⟨yk, ya1, yn1, ym1, ya2, yn2, ym2, ya3, yn3, ym3, ya4, yn4, ym4, ya5, yn5, ym5, yc, ye, rfl⟩ := ho.agg
          obtain ⟨FP, hp, hnp, hrp⟩ := own_oneP ho (Nat.le_refl _)
          clear k0 k1 k2 k3 k4 k5 k6 k7 hltA hltR
          have hS3 := S3.out
          have hS5 := S5.out
          have hL2 := HL2.out
          have hZ0 := Z0.out
          have hS6 := b.size
          have B6 := Lib.hid (below_then B0.out b)
          obtain ⟨w7, hw7⟩ : ∃ W, w6.alloc (.cells #[.int .i64 yk, .slice ya1 yn1 ym1, .slice ya2 yn2 ym2, .slice ya3 yn3 ym3, .slice ya4 yn4 ym4, .slice ya5 yn5 ym5, .int .i64 yc, .int .i64 ye] 31) = W := ⟨_, rfl⟩
          have b7 : Below w6.heap.size w6 w7 := hw7 ▸ below1 w6 _
          have hS7 : w7.heap.size = w6.heap.size + 1 := by rw [← hw7]; simp
          have HP := Lib.hid (show OwnParts w7 _ _ _ FP from hw7 ▸ hp)
          have HRP := Lib.hid hrp
          have HNP := Lib.hid hnp
          have B7 := Lib.hid (below_then B6.out b7)
          have KB6 := Lib.hid (blk_below b7 (blk_below b KB.out))
          have KA6 := Lib.hid (blk_below b7 (blk_below b KA0.out))
          have KR6 := Lib.hid (blk_below b7 (blk_below b KR0.out))
          have KB5 := Lib.hid (blk_below b KB.out)
          have HT6 := Lib.hid (show OwnTxs w7 na names FN from (HT0.out.kept (fun g hg => b.block g (by have := HRG.out g hg; omega))).kept (fun g hg => b7.block g (by have := HRG.out g hg; omega)))
          have EW7 := Lib.hid hw7
          clear hp hrp hnp b ho b7 hw7
          obtain ⟨y0, y1, y2, y3, y4, y5, y6, y7⟩ := vec8 KB5.out
          obtain ⟨e0, e1, e2, e3, e4, e5, e6, e7⟩ := free8 KB5.out
          have hAb : ¬ w.heap.size = w5.heap.size := by omega
          have hRb : ¬ w.heap.size + 1 = w5.heap.size := by omega
          have h56 : w5.heap.size < w6.heap.size := by omega
          go_upto_region 8 with (fail)
          obtain ⟨wx, hwx⟩ : ∃ W, w7.setCell ⟨w5.heap.size, 2, none⟩ (.slice (some ⟨w6.heap.size, 0, none⟩) 1 1) = W := ⟨_, rfl⟩
          have SX := Lib.hid (show wx.heap.size = w7.heap.size by rw [← hwx]; simp)
          have BX := Lib.hid (show Below w.heap.size w wx from hwx ▸ B7.out.setCell (p := ⟨w5.heap.size, 2, none⟩) (show w.heap.size ≤ w5.heap.size by omega) _)
          have KBX := Lib.hid (show wx.heap[w5.heap.size]? = some (.cells #[.int .i64 4, .slice none 0 0, .slice (some ⟨w6.heap.size, 0, none⟩) 1 1, .slice na names.length nc, .slice none 0 0, .slice none 0 0, .int .i64 0, .int .i64 0] 31 (0, 0)) from hwx ▸ Joins.block_setCell KB6.out _)
          have KAX := Lib.hid (show wx.heap[w.heap.size]? = _ from hwx ▸ (Below.heap_setCell _ _ _ _ hAb).trans KA6.out)
          have KRX := Lib.hid (show wx.heap[w.heap.size + 1]? = _ from hwx ▸ (Below.heap_setCell _ _ _ _ hRb).trans KR6.out)
          have OX := Lib.hid (show Own (d + 1) (.mk 4 [] [VV] names [] [] 0 0) (.agg #[.int .i64 4, .slice none 0 0, .slice (some ⟨w6.heap.size, 0, none⟩) 1 1, .slice na names.length nc, .slice none 0 0, .slice none 0 0, .int .i64 0, .int .i64 0]) (w.heap.size + 2) wx.heap.size wx from own_listV (w := wx) (d := d) (parts := [VV]) (lo := w.heap.size + 2) (hi := wx.heap.size) (show OwnParts wx d (.slice (some ⟨w6.heap.size, 0, none⟩) 1 1) [VV] FP from hwx ▸ HP.out.kept (fun g hg => Below.heap_setCell _ _ _ _ (by have := HRP.out g hg; show g ≠ w5.heap.size; omega))) (show OwnTxs wx na names FN from hwx ▸ HT6.out.kept (fun g hg => Below.heap_setCell _ _ _ _ (by have := HRG.out g hg; show g ≠ w5.heap.size; omega))) HNP.out HND.out (fun g hg => by have := HRP.out g hg; have := SX.out; omega) (fun g hg => by have := HRG.out g hg; have := SX.out; omega) (fun g hg hh => by have := HRP.out g hg; have := HRG.out g hh; omega) HCP.out)
          have HHX := Lib.hid (Nat.le_refl wx.heap.size)
          have LOX := Lib.hid (Nat.lt_succ_self (w.heap.size + 1))
          rw [← World.setCell_alloc_past _ _ _ _ h56, EW7.out, hwx]
          clear hwx y0 y1 y2 y3 y4 y5 y6 y7 e0 e1 e2 e3 e4 e5 e6 e7
          obtain ⟨k0, k1, k2, k3, k4, k5, k6, k7⟩ := vec8 KAX.out
          go_wp2
          go_loopw [7] (fun i wr => i = .int .i64 0 ∧ wr = wx) (fun _ _ => 0)
          case atStart => exact ⟨rfl, rfl⟩
          case round =>
            obtain ⟨rfl, rfl⟩ := hrel
            obtain ⟨y0, y1, y2, y3, y4, y5, y6, y7⟩ := vec8 KBX.out
            go_wp2_with fail
            with_reducible refine (IV.out wr _ (OX.out.vat HHX.out)).mono ?_
            rintro e w9 ⟨rfl, b⟩
            have B9 := Lib.hid (below_then BX.out b)
            have KB9 := Lib.hid (blk_below b KBX.out)
            have KR9 := Lib.hid (blk_below b KRX.out)
            have O9 := Lib.hid (OX.out.below b HHX.out)
            have S9 := Lib.hid b.size
            clear b y0 y1 y2 y3 y4 y5 y6 y7
            obtain ⟨y0, y1, y2, y3, y4, y5, y6, y7⟩ := vec8 KB9.out
            obtain ⟨z0, z1, z2, z3, z4, z5, z6, z7⟩ := vec8 KR9.out
            obtain ⟨f0, f1, f2, f3, f4, f5, f6, f7⟩ := free8 KR9.out
            go_wp2
            rw [EV.out, ED.out, XB.out]
            exact vec_endS rfl rfl rfl rfl KR9.out ⟨_, rfl, (O9.out.put8 LOX.out _ _ _ _ _ _ _ _).wide (by have := LOX.out; omega) (by rw [put8_size]; exact Nat.le_trans HHX.out S9.out), put8_below B9.out (Nat.le_succ _)⟩
        · by_cases h4 : j = 4
          · have XE := Lib.hid (XL.out ok h4)
            have XB := Lib.hid XE.out.2.1
            subst h4
            by_cases h44 : kk = 4
            · have XS := XA.out h44
              have EV := Lib.hid (XE.out.1.trans (by rw [XS.1]))
              have ED := Lib.hid (XE.out.2.2.trans (by rw [XS.2]))
              rw [EV.out, ED.out] at IV
              have hi0 := h0 h44
              subst h44
              clear o ok q r XS CF CI OC XL XF XA XG XC FL FLQ li h0 h5f hkk h5
              rw [hi0] at KA ⊢
              clear hi0
              obtain ⟨W3, hW3⟩ : ∃ W, w2.alloc (.cells #[] 9) = W := ⟨_, rfl⟩
              have b3 : Below w2.heap.size w2 W3 := hW3 ▸ below1 w2 _
              have KS := Lib.hid (show W3.heap[w2.heap.size]? = some (.cells #[] 9 (0, 0)) from hW3 ▸ blk_new w2 _ rfl)
              have B3 := Lib.hid (below_then B2.out b3)
              have KA3 := Lib.hid (blk_below b3 KA.out)
              have KR3 := Lib.hid (blk_below b3 KR.out)
              have EW3 := Lib.hid hW3
              have HL2 := Lib.hid (Array.getElem?_eq_some_iff.1 KR.out).1
              clear b3 hW3 k0 k1 k2 k3 k4 k5 k6 k7
              obtain ⟨k0, k1, k2, k3, k4, k5, k6, k7⟩ := vec8 KA.out
              have hltA := (Array.getElem?_eq_some_iff.1 KA.out).1
              go_wp2_with (at_builtin; go_loud (rw [EW3.out]; refine wpList_copyTexts rfl _ _ rfl w2.heap.size _ rfl (.inr ⟨w2.heap.size, Nat.le_refl _, rfl, KS.out⟩) an cn names lo hi rfl (HT.out _ B3.out) ln (Nat.le_of_lt (Array.getElem?_eq_some_iff.1 KS.out).1) ?_))
              intro v' w5 hcp hb5
              obtain ⟨na, nc, FN, rfl, hT, hnd, hrg, hcap⟩ := hcp
              have B5 := Lib.hid (B3.out.trans (hb5.mono (by have := HL2.out; omega)))
              have KA5 := Lib.hid ((hb5.block _ (Array.getElem?_eq_some_iff.1 KA.out).1).trans KA3.out)
              have KR5 := Lib.hid ((hb5.block _ (Array.getElem?_eq_some_iff.1 KR.out).1).trans KR3.out)
              have S5 := Lib.hid hb5.size
              have S3 := Lib.hid (Array.getElem?_eq_some_iff.1 KS.out).1
              obtain ⟨w0, hw0⟩ : ∃ W, w5.alloc (.cells #[.int .i64 4, .slice none 0 0, .slice none 0 0, .slice na names.length nc, .slice none 0 0, .slice none 0 0, .int .i64 0, .int .i64 0] 31) = W := ⟨_, rfl⟩
              have b0 : Below w5.heap.size w5 w0 := hw0 ▸ below1 w5 _
              have B0 := Lib.hid (below_then B5.out b0)
              have KB := Lib.hid (show w0.heap[w5.heap.size]? = some (.cells #[.int .i64 4, .slice none 0 0, .slice none 0 0, .slice na names.length nc, .slice none 0 0, .slice none 0 0, .int .i64 0, .int .i64 0] 31 (0, 0)) from hw0 ▸ blk_new w5 _ rfl)
              have KA0 := Lib.hid (blk_below b0 KA5.out)
              have KR0 := Lib.hid (blk_below b0 KR5.out)
              have HT0 := Lib.hid (show OwnTxs w0 na names FN from hT.kept (fun g hg => b0.block g (hrg g hg).2))
              have HRG := Lib.hid hrg
              have HND := Lib.hid hnd
              have HCP := Lib.hid hcap
              have EW0 := Lib.hid hw0
              have Z0 := Lib.hid (show w0.heap.size = w5.heap.size + 1 by rw [← hw0]; simp)
              clear hltA
              have hltA := (Array.getElem?_eq_some_iff.1 KA5.out).1
              have hltR := (Array.getElem?_eq_some_iff.1 KR5.out).1
              clear b0 hw0 hT hrg hnd hcap k0 k1 k2 k3 k4 k5 k6 k7 hb5 KA3 KR3
              obtain ⟨k0, k1, k2, k3, k4, k5, k6, k7⟩ := vec8 KA5.out
              go_wp2_with fail
              rw [EW0.out]
              with_reducible refine (CP.out _ B0.out).mono ?_
              rintro e w6 ⟨v, FP, rfl, hp, hnp, hrp, b, _⟩
              obtain ⟨ap', cp', rfl⟩ := hp.form
              clear k0 k1 k2 k3 k4 k5 k6 k7 hltA hltR
              have hS3 := S3.out
              have hS5 := S5.out
              have hL2 := HL2.out
              have hZ0 := Z0.out
              have B6 := Lib.hid (below_then B0.out b)
              have KB6 := Lib.hid (blk_below b KB.out)
              have KA6 := Lib.hid (blk_below b KA0.out)
              have KR6 := Lib.hid (blk_below b KR0.out)
              have hS6 := b.size
              have HT6 := Lib.hid (show OwnTxs w6 na names FN from HT0.out.kept (fun g hg => b.block g (by have := HRG.out g hg; omega)))
              have HP := Lib.hid hp
              have HRP := Lib.hid hrp
              have HNP := Lib.hid hnp
              clear hp hrp hnp b
              obtain ⟨k0, k1, k2, k3, k4, k5, k6, k7⟩ := vec8 KA6.out
              obtain ⟨y0, y1, y2, y3, y4, y5, y6, y7⟩ := vec8 KB6.out
              obtain ⟨e0, e1, e2, e3, e4, e5, e6, e7⟩ := free8 KB6.out
              have hAb : ¬ w.heap.size = w5.heap.size := by omega
              have hRb : ¬ w.heap.size + 1 = w5.heap.size := by omega
              go_upto_region 8 with (fail)
              obtain ⟨wx, hwx⟩ : ∃ W, w6.setCell ⟨w5.heap.size, 2, none⟩ (.slice ap' parts.length cp') = W := ⟨_, rfl⟩
              have SX := Lib.hid (show wx.heap.size = w6.heap.size by rw [← hwx]; simp)
              have BX := Lib.hid (show Below w.heap.size w wx from hwx ▸ B6.out.setCell (p := ⟨w5.heap.size, 2, none⟩) (show w.heap.size ≤ w5.heap.size by omega) _)
              have KBX := Lib.hid (show wx.heap[w5.heap.size]? = some (.cells #[.int .i64 4, .slice none 0 0, .slice ap' parts.length cp', .slice na names.length nc, .slice none 0 0, .slice none 0 0, .int .i64 0, .int .i64 0] 31 (0, 0)) from hwx ▸ Joins.block_setCell KB6.out _)
              have KAX := Lib.hid (show wx.heap[w.heap.size]? = _ from hwx ▸ (Below.heap_setCell _ _ _ _ hAb).trans KA6.out)
              have KRX := Lib.hid (show wx.heap[w.heap.size + 1]? = _ from hwx ▸ (Below.heap_setCell _ _ _ _ hRb).trans KR6.out)
              have OX := Lib.hid (own_listV (w := wx) (lo := w.heap.size + 2) (hi := wx.heap.size) (show OwnParts wx _ _ parts FP from hwx ▸ HP.out.kept (fun g hg => Below.heap_setCell _ _ _ _ (by have := HRP.out g hg; show g ≠ w5.heap.size; omega))) (show OwnTxs wx na names FN from hwx ▸ HT6.out.kept (fun g hg => Below.heap_setCell _ _ _ _ (by have := HRG.out g hg; show g ≠ w5.heap.size; omega))) HNP.out HND.out (fun g hg => by have := HRP.out g hg; have := SX.out; omega) (fun g hg => by have := HRG.out g hg; have := SX.out; omega) (fun g hg hh => by have := HRP.out g hg; have := HRG.out g hh; omega) HCP.out)
              have HHX := Lib.hid (Nat.le_refl wx.heap.size)
              have LOX := Lib.hid (Nat.lt_succ_self (w.heap.size + 1))
              rw [hwx]
              clear hwx k0 k1 k2 k3 k4 k5 k6 k7 y0 y1 y2 y3 y4 y5 y6 y7 e0 e1 e2 e3 e4 e5 e6 e7
              obtain ⟨k0, k1, k2, k3, k4, k5, k6, k7⟩ := vec8 KAX.out
              go_wp2
              go_loopw [7] (fun i wr => i = .int .i64 0 ∧ wr = wx) (fun _ _ => 0)
              case atStart => exact ⟨rfl, rfl⟩
              case round =>
                obtain ⟨rfl, rfl⟩ := hrel
                obtain ⟨y0, y1, y2, y3, y4, y5, y6, y7⟩ := vec8 KBX.out
                go_wp2_with fail
                with_reducible refine (IV.out wr _ (OX.out.vat HHX.out)).mono ?_
                rintro e w9 ⟨rfl, b⟩
                have B9 := Lib.hid (below_then BX.out b)
                have KB9 := Lib.hid (blk_below b KBX.out)
                have KR9 := Lib.hid (blk_below b KRX.out)
                have O9 := Lib.hid (OX.out.below b HHX.out)
                have S9 := Lib.hid b.size
                clear b y0 y1 y2 y3 y4 y5 y6 y7
                obtain ⟨y0, y1, y2, y3, y4, y5, y6, y7⟩ := vec8 KB9.out
                obtain ⟨z0, z1, z2, z3, z4, z5, z6, z7⟩ := vec8 KR9.out
                obtain ⟨f0, f1, f2, f3, f4, f5, f6, f7⟩ := free8 KR9.out
                go_wp2
                rw [EV.out, ED.out, XB.out]
                exact vec_endS rfl rfl rfl rfl KR9.out ⟨_, rfl, (O9.out.put8 LOX.out _ _ _ _ _ _ _ _).wide (by have := LOX.out; omega) (by rw [put8_size]; exact Nat.le_trans HHX.out S9.out), put8_below B9.out (Nat.le_succ _)⟩
            · have XS := XC.out h5 h44
              have EV := Lib.hid (XE.out.1.trans (by rw [XS.1]))
              have ED := Lib.hid (XE.out.2.2.trans (by rw [XS.2]))
              rw [EV.out, ED.out] at IV
              rw [if_neg h5] at li
              have li : items.length ≤ 40 := by omega
              have hk3 : kk ≤ 3 := by omega
              clear o ok q r XS CF CP CI OC XL XF XA XG XC FL FLQ h0 h5f h44 h5
              obtain ⟨W3, hW3⟩ : ∃ W, w2.alloc (.cells #[] 9) = W := ⟨_, rfl⟩
              have b3 : Below w2.heap.size w2 W3 := hW3 ▸ below1 w2 _
              have KS := Lib.hid (show W3.heap[w2.heap.size]? = some (.cells #[] 9 (0, 0)) from hW3 ▸ blk_new w2 _ rfl)
              have B3 := Lib.hid (below_then B2.out b3)
              have KA3 := Lib.hid (blk_below b3 KA.out)
              have KR3 := Lib.hid (blk_below b3 KR.out)
              have EW3 := Lib.hid hW3
              have HL2 := Lib.hid (Array.getElem?_eq_some_iff.1 KR.out).1
              clear b3 hW3 k0 k1 k2 k3 k4 k5 k6 k7
              obtain ⟨k0, k1, k2, k3, k4, k5, k6, k7⟩ := vec8 KA.out
              have hltA := (Array.getElem?_eq_some_iff.1 KA.out).1
              go_wp2_with (at_builtin; go_loud (rw [EW3.out]; refine wpList_copyTexts rfl _ _ rfl w2.heap.size _ rfl (.inr ⟨w2.heap.size, Nat.le_refl _, rfl, KS.out⟩) an cn names lo hi rfl (HT.out _ B3.out) ln (Nat.le_of_lt (Array.getElem?_eq_some_iff.1 KS.out).1) ?_))
              intro v' w5 hcp hb5
              obtain ⟨na, nc, FN, rfl, hT, hnd, hrg, hcap⟩ := hcp
              have B5 := Lib.hid (B3.out.trans (hb5.mono (by have := HL2.out; omega)))
              have KA5 := Lib.hid ((hb5.block _ (Array.getElem?_eq_some_iff.1 KA.out).1).trans KA3.out)
              have KR5 := Lib.hid ((hb5.block _ (Array.getElem?_eq_some_iff.1 KR.out).1).trans KR3.out)
              have S5 := Lib.hid hb5.size
              have S3 := Lib.hid (Array.getElem?_eq_some_iff.1 KS.out).1
              obtain ⟨w0, hw0⟩ : ∃ W, w5.alloc (.cells #[.int .i64 4, .slice none 0 0, .slice none 0 0, .slice na names.length nc, .slice none 0 0, .slice none 0 0, .int .i64 0, .int .i64 0] 31) = W := ⟨_, rfl⟩
              have b0 : Below w5.heap.size w5 w0 := hw0 ▸ below1 w5 _
              have B0 := Lib.hid (below_then B5.out b0)
              have KB := Lib.hid (show w0.heap[w5.heap.size]? = some (.cells #[.int .i64 4, .slice none 0 0, .slice none 0 0, .slice na names.length nc, .slice none 0 0, .slice none 0 0, .int .i64 0, .int .i64 0] 31 (0, 0)) from hw0 ▸ blk_new w5 _ rfl)
              have KA0 := Lib.hid (blk_below b0 KA5.out)
              have KR0 := Lib.hid (blk_below b0 KR5.out)
              have HT0 := Lib.hid (show OwnTxs w0 na names FN from hT.kept (fun g hg => b0.block g (hrg g hg).2))
              have HRG := Lib.hid hrg
              have HND := Lib.hid hnd
              have HCP := Lib.hid hcap
              have EW0 := Lib.hid hw0
              have Z0 := Lib.hid (show w0.heap.size = w5.heap.size + 1 by rw [← hw0]; simp)
              clear hltA
              have hltA := (Array.getElem?_eq_some_iff.1 KA5.out).1
              have hltR := (Array.getElem?_eq_some_iff.1 KR5.out).1
              clear b0 hw0 hT hrg hnd hcap k0 k1 k2 k3 k4 k5 k6 k7 hb5 KA3 KR3
              obtain ⟨k0, k1, k2, k3, k4, k5, k6, k7⟩ := vec8 KA5.out
              go_wp2
              rw [EW0.out]
              clear k0 k1 k2 k3 k4 k5 k6 k7 hltA hltR
              have hS3 := S3.out
              have hS5 := S5.out
              have hL2 := HL2.out
              have hZ0 := Z0.out
              obtain ⟨n, hn⟩ : ∃ n, items.length = n := ⟨_, rfl⟩
              obtain ⟨PS, hS⟩ : ∃ L : List Vec, items.map (fun x => vecOf kk [x]) = L := ⟨_, rfl⟩
              have SL := Lib.hid (show PS.length = n by rw [← hS, ← hn]; simp)
              have SXA := Lib.hid (fun i (hi : i < n) => (by rw [← hS]; simp [List.getD_eq_getElem?_getD, hn.symm ▸ hi] : PS.getD i noV = vecOf kk [items.getD i noI]))
              rw [hS] at IV EV
              rw [hn] at KA0 li
              have HI0 := Lib.hid (fun (k : Nat) (hk : k < n) (wr : World) (kp : ∀ g, g < w0.heap.size → g ≠ w5.heap.size → wr.heap[g]? = w0.heap[g]?) => (HI.out w0 B0.out).loopK (.inr (by omega)) (by omega) kp (i := k) (by omega))
              have ST := Lib.hid (show AppP w w0 w0 w5.heap.size 4 1 PS 0 (.slice none 0 0) na names.length nc from AppP.start KB.out B0.out (by omega))
              rw [hn]
              clear hn hS
              obtain ⟨b, hb⟩ : ∃ b, w5.heap.size = b := ⟨_, rfl⟩
              rw [hb] at ST HI0 HRG hS5 hZ0 ⊢
              have hltA0 := (Array.getElem?_eq_some_iff.1 KA0.out).1
              clear hb EW0
              go_loopw [7] (fun i wr => ∃ (k : Nat) (sp : Option Addr) (np cp2 : Nat), k ≤ n ∧ i = .int .i64 k ∧ AppP w w0 wr b 4 1 PS k (.slice sp np cp2) na names.length nc) (fun i _ => n - (intOf i).toNat)
              case atStart => exact ⟨0, none, 0, 0, Nat.zero_le _, rfl, ST.out⟩
              case round =>
                obtain ⟨k, sp, np, cp2, hk, rfl, hap⟩ := hrel
                have AP := Lib.hid hap
                have KAr := Lib.hid (hap.blk KA0.out (by omega))
                have hlA := (Array.getElem?_eq_some_iff.1 KAr.out).1
                clear hap
                obtain ⟨k0, k1, k2, k3, k4, k5, k6, k7⟩ := vec8 KAr.out
                by_cases hlt : k < n
                · obtain ⟨ba, off, rfl, hbB, c0, c1, c2⟩ := HI0.out k hlt wr AP.out.kept
                  have SX := Lib.hid (SXA.out k hlt)
                  obtain ⟨x, hx⟩ : ∃ x : It, items.getD k noI = x := ⟨_, rfl⟩
                  rw [hx] at c0 c1 c2 SX
                  have hbw : ba < wr.heap.size := Nat.lt_of_lt_of_le hbB AP.out.size
                  obtain ⟨vals, Fs, v1, v2, v3, v4, v5, v6⟩ := AP.out.ex
                  have v4 := Lib.hid v4
                  have v6 := Lib.hid v6
                  have RW0 := Lib.hid v3
                  have LN := Lib.hid (show k ≤ 1048576 by omega)
                  clear hx v3
                  go_upto_region 13 with (fail)
                  obtain ⟨w8, hw8⟩ : ∃ W, wr.alloc (.cells #[.int .i64 x.n, .int .i64 x.d, .string x.t] 56) = W := ⟨_, rfl⟩
                  have BW8 := Lib.hid (show Below wr.heap.size wr w8 from hw8 ▸ below1 wr _)
                  have S8 := Lib.hid (show w8.heap.size = wr.heap.size + 1 by rw [← hw8]; simp)
                  have X1 := Lib.hid (show w8.heap[wr.heap.size]? = some (.cells #[.int .i64 x.n, .int .i64 x.d, .string x.t] 56 (0, 0)) from hw8 ▸ blk_new wr _ rfl)
                  rw [hw8]
                  clear hw8
                  have hAPs := AP.out.size
                  have FAR := Lib.hid (fun (q : Nat × TypeId × Array Value) (hq : q ∈ ([(wr.heap.size, 56, #[.int .i64 x.n, .int .i64 x.d, .string x.t]), (w.heap.size, 31, #[.int .i64 kk, .slice (some ⟨ba, off, none⟩) n ci, .slice ap parts.length cp, .slice an names.length cn, .slice ac cls.length cc, .slice al levels.length cl, .int .i64 code, .int .i64 env]), (b, 31, #[.int .i64 4, .slice none 0 0, .slice sp np cp2, .slice na names.length nc, .slice none 0 0, .slice none 0 0, .int .i64 0, .int .i64 0])] : List (Nat × TypeId × Array Value))) (j' : Nat) (hj' : (Value.slice sp np cp2).ownBlock = some j') => (by
                    have hr := AP.out.row j' hj'
                    have hl := AP.out.lt
                    simp only [List.mem_cons, List.not_mem_nil, or_false] at hq
                    rcases hq with rfl | rfl | rfl <;> (simp only; omega) : q.1 ≠ j'))
                  have H := Lib.hid (show HeldC w w8 ([(wr.heap.size, 56, #[.int .i64 x.n, .int .i64 x.d, .string x.t]), (w.heap.size, 31, #[.int .i64 kk, .slice (some ⟨ba, off, none⟩) n ci, .slice ap parts.length cp, .slice an names.length cn, .slice ac cls.length cc, .slice al levels.length cl, .int .i64 code, .int .i64 env]), (b, 31, #[.int .i64 4, .slice none 0 0, .slice sp np cp2, .slice na names.length nc, .slice none 0 0, .slice none 0 0, .int .i64 0, .int .i64 0])]) from ⟨below_then AP.out.below BW8.out, fun q hq => by
                    simp only [List.mem_cons, List.not_mem_nil, or_false] at hq
                    rcases hq with rfl | rfl | rfl
                    · exact X1.out
                    · exact blk_below BW8.out KAr.out
                    · exact blk_below BW8.out AP.out.vec⟩)
                  refine run_region_seq (ops := (opsOf Tryd.f14 13)) (S := fun w' => HeldC w w' ([(wr.heap.size, 56, #[.int .i64 x.n, .int .i64 x.d, .string x.t]), (w.heap.size, 31, #[.int .i64 kk, .slice (some ⟨ba, off, none⟩) n ci, .slice ap parts.length cp, .slice an names.length cn, .slice ac cls.length cc, .slice al levels.length cl, .int .i64 code, .int .i64 env]), (b, 31, #[.int .i64 4, .slice none 0 0, .slice sp np cp2, .slice na names.length nc, .slice none 0 0, .slice none 0 0, .int .i64 0, .int .i64 0])])) [(0, true), (1, true), (2, true), (3, true), (4, true), (5, false), (6, true), (7, false), (8, false), (9, true), (10, false)] (by kernel_rfl) (by kernel_rfl) (by kernel_rfl) H.out ?_
                  refine runC_partV (b := b) (by kernel_rfl) (show opAt (opsOf Tryd.f14 13) 0 = some (some 72, .fieldAddr 31 (.tmp 6) 2, none) from by kernel_rfl) (by kernel_rfl) (by kernel_rfl) (by kernel_rfl) ?_
                  refine runC_cell (b := b) (j := 2) (v := .slice sp np cp2) load_vecs (show opAt (opsOf Tryd.f14 13) 1 = some (some 73, .load 29 (.tmp 72), none) from by kernel_rfl) (by kernel_rfl) (by kernel_rfl) (by kernel_rfl) (List.Mem.tail _ (List.Mem.tail _ (List.Mem.head _))) rfl ?_
                  refine runC_partV (b := w.heap.size) (by kernel_rfl) (show opAt (opsOf Tryd.f14 13) 2 = some (some 74, .fieldAddr 31 (.tmp 2) 0, none) from by kernel_rfl) (by kernel_rfl) (by kernel_rfl) (by kernel_rfl) ?_
                  refine runC_cell (b := w.heap.size) (j := 0) (v := .int .i64 kk) load_int (show opAt (opsOf Tryd.f14 13) 3 = some (some 75, .load 3 (.tmp 74), none) from by kernel_rfl) (by kernel_rfl) (by kernel_rfl) (by kernel_rfl) (List.Mem.tail _ (List.Mem.head _)) rfl ?_
                  refine runC_itm (b := wr.heap.size) (show opAt (opsOf Tryd.f14 13) 4 = some (some 76, .load 56 (.tmp 8), none) from by kernel_rfl) (by kernel_rfl) (by kernel_rfl) (by kernel_rfl) (List.Mem.head _) ?_
                  refine run_build_item x (show opAt (opsOf Tryd.f14 13) 5 = some (some 77, .buildSlice 28 1 #[(0, (.tmp 76))], none) from by kernel_rfl) (by kernel_rfl) (by kernel_rfl) (by kernel_rfl) (fun w9 hw9 => ?_)
                  have K9 := Lib.hid (show w9.heap[w8.heap.size]? = some (.cells #[.int .i64 x.n, .int .i64 x.d, .string x.t] 56 (0, 0)) from hw9 ▸ blk_new w8 _ rfl)
                  have b9 : Below w8.heap.size w8 w9 := hw9 ▸ below1 w8 _
                  have HO := Lib.hid (show Own 1 (vecOf kk [x]) (.agg #[.int .i64 kk, .slice (some ⟨w8.heap.size, 0, none⟩) 1 1, .slice none 0 0, .slice none 0 0, .slice none 0 0, .slice none 0 0, .int .i64 0, .int .i64 0]) wr.heap.size w9.heap.size w9 from (own_one (k := kk) K9.out).wide (by have := S8.out; omega) (by first | (rw [hw9]; simp; done) | (rw [← hw9]; simp; done)))
                  have BW := Lib.hid (below_then BW8.out b9)
                  refine ⟨heldC_call H.out b9, ?_⟩
                  have H := Lib.hid (heldC_call H.out b9)
                  have RW := Lib.hid (ownsRow_below (ownsRow_below RW0.out BW8.out) b9)
                  have HS9 := Lib.hid b9.size
                  clear b9 hw9
                  refine run_bldI (k := kk) (sa := some ⟨w8.heap.size, 0, none⟩) (n := 1) (m := 1) (show opAt (opsOf Tryd.f14 13) 6 = some (some 78, .build 31 #[(0, (.tmp 75)), (1, (.tmp 77))], none) from by kernel_rfl) (by kernel_rfl) (by kernel_rfl) (by kernel_rfl) (by kernel_rfl) ?_
                  refine tail_vec3 (c0 := .int .i64 kk) (c1 := .slice (some ⟨w8.heap.size, 0, none⟩) 1 1) (c2 := .slice none 0 0) (c3 := .slice none 0 0) (c4 := .slice none 0 0) (c5 := .slice none 0 0) (c6 := .int .i64 0) (c7 := .int .i64 0) (by intro u hu; simp only [List.mem_cons, List.not_mem_nil, or_false] at hu; rcases hu with rfl | rfl | rfl | rfl | rfl | rfl | rfl | rfl <;> rfl) (show opAt (opsOf Tryd.f14 13) 7 = some (some 79, .buildSlice 29 1 #[(0, (.tmp 78))], none) from by kernel_rfl) (by kernel_rfl) (by kernel_rfl) (show opAt (opsOf Tryd.f14 13) 8 = some (some 80, .call { callee := .builtin .append, args := [(.tmp 73), (.tmp 79)].toArray, argTypes := [29, 29].toArray }, none) from by kernel_rfl) (by kernel_rfl) (fun _ => by kernel_rfl) (show opAt (opsOf Tryd.f14 13) 9 = some (some 81, .fieldAddr 31 (.tmp 6) 2, none) from by kernel_rfl) (by kernel_rfl) (by kernel_rfl) (fun _ _ => by kernel_rfl) (show opAt (opsOf Tryd.f14 13) 10 = some (none, .store 29 (.tmp 81) (.tmp 80), none) from by kernel_rfl) (by kernel_rfl) (by kernel_rfl) H.out RW.out LN.out (Nat.le_trans AP.out.size BW.out.size) (Nat.le_trans AP.out.ge (Nat.le_of_lt AP.out.lt)) (List.Mem.tail _ (List.Mem.tail _ (List.Mem.head _))) rfl AP.out.lt AP.out.ge (fun q hq => FAR.out q hq) ?_
                  rintro v' W ⟨s2, n2, c2', rfl⟩ hK hO hB hZ hM hG
                  simp only [putAll, Act.put, List.setIfInBounds_toArray, List.set_cons_zero, List.set_cons_succ]
                  have AN := Lib.hid (AP.out.next BW.out (by rw [SX.out]; exact HO.out) v1 v2 v4.out v5 v6.out hK hO hB hZ hM hG)
                  clear hK hO hB hG hZ hM H FAR LN
                  go_wp2
                  go_roundw
                  case rel => first | exact ⟨k + 1, _, _, _, by omega, by go_num, AN.out⟩ | ((repeat apply Exists.intro); exact ⟨⟨k + 1, _, _, _, by omega, by go_num, AN.out⟩, rfl⟩)
                  case measure => simp [intOf]; omega
                · obtain rfl : k = n := by omega
                  have KBX := Lib.hid AP.out.vec
                  have KRX := Lib.hid (AP.out.blk KR0.out (by omega))
                  have BX := Lib.hid AP.out.below
                  obtain ⟨FP, hp, hnp, hrp⟩ := AppP.parts (show AppP w w0 wr b 4 1 PS PS.length (.slice sp np cp2) na names.length nc from by rw [SL.out]; exact AP.out)
                  obtain ⟨q1, q2, hq⟩ := hp.form
                  simp only [Value.slice.injEq] at hq
                  obtain ⟨rfl, rfl, rfl⟩ := hq
                  have hAPs := AP.out.size
                  have OX := Lib.hid (own_listV (lo := w.heap.size + 2) (hi := wr.heap.size) hp (HT0.out.kept (fun g hg => AP.out.kept g (by have := HRG.out g hg; omega) (by have := HRG.out g hg; omega))) hnp HND.out (fun g hg => by have := hrp g hg; omega) (fun g hg => by have := HRG.out g hg; omega) (fun g hg hh => by have := hrp g hg; have := HRG.out g hh; omega) HCP.out)
                  have HHX := Lib.hid (Nat.le_refl wr.heap.size)
                  have LOX := Lib.hid (Nat.lt_succ_self (w.heap.size + 1))
                  clear hp hnp hrp
                  obtain ⟨y0, y1, y2, y3, y4, y5, y6, y7⟩ := vec8 KBX.out
                  go_wp2_with fail
                  with_reducible refine (IV.out wr _ (OX.out.vat HHX.out)).mono ?_
                  rintro e w9 ⟨rfl, b⟩
                  have B9 := Lib.hid (below_then BX.out b)
                  have KB9 := Lib.hid (blk_below b KBX.out)
                  have KR9 := Lib.hid (blk_below b KRX.out)
                  have O9 := Lib.hid (OX.out.below b HHX.out)
                  have S9 := Lib.hid b.size
                  clear b y0 y1 y2 y3 y4 y5 y6 y7
                  obtain ⟨y0, y1, y2, y3, y4, y5, y6, y7⟩ := vec8 KB9.out
                  obtain ⟨z0, z1, z2, z3, z4, z5, z6, z7⟩ := vec8 KR9.out
                  obtain ⟨f0, f1, f2, f3, f4, f5, f6, f7⟩ := free8 KR9.out
                  go_wp2
                  rw [EV.out, ED.out, XB.out]
                  exact vec_endS rfl rfl rfl rfl KR9.out ⟨_, rfl, (O9.out.put8 LOX.out _ _ _ _ _ _ _ _).wide (by have := LOX.out; omega) (by rw [put8_size]; exact Nat.le_trans HHX.out S9.out), put8_below B9.out (Nat.le_succ _)⟩
          · have XE := Lib.hid (XF.out ok h4)
            have XB := Lib.hid XE.out.2.1
            have EV := Lib.hid XE.out.1
            have ED := Lib.hid XE.out.2.2
            rw [EV.out, ED.out] at IV
            rw [if_neg h5] at li
            have li : items.length ≤ 40 := by omega
            have hkj : kk ≤ j := by omega
            have hj3 : j ≤ 3 := by omega
            have hk3 : kk ≤ 3 := by omega
            have CI := Lib.hid (CI.out q hkj hj3)
            have hb4 : (j == 4) = false := beq_eq_false_iff_ne.2 h4
            clear o ok q r CF CP OC XL XF XA XG XC FL FLQ h0 h5f h5
            obtain ⟨W3, hW3⟩ : ∃ W, w2.alloc (.cells #[] 9) = W := ⟨_, rfl⟩
            have b3 : Below w2.heap.size w2 W3 := hW3 ▸ below1 w2 _
            have KS := Lib.hid (show W3.heap[w2.heap.size]? = some (.cells #[] 9 (0, 0)) from hW3 ▸ blk_new w2 _ rfl)
            have B3 := Lib.hid (below_then B2.out b3)
            have KA3 := Lib.hid (blk_below b3 KA.out)
            have KR3 := Lib.hid (blk_below b3 KR.out)
            have EW3 := Lib.hid hW3
            have HL2 := Lib.hid (Array.getElem?_eq_some_iff.1 KR.out).1
            clear b3 hW3 k0 k1 k2 k3 k4 k5 k6 k7
            obtain ⟨k0, k1, k2, k3, k4, k5, k6, k7⟩ := vec8 KA.out
            have hltA := (Array.getElem?_eq_some_iff.1 KA.out).1
            go_wp2_with (at_builtin; go_loud (rw [EW3.out]; refine wpList_copyTexts rfl _ _ rfl w2.heap.size _ rfl (.inr ⟨w2.heap.size, Nat.le_refl _, rfl, KS.out⟩) an cn names lo hi rfl (HT.out _ B3.out) ln (Nat.le_of_lt (Array.getElem?_eq_some_iff.1 KS.out).1) ?_))
            intro v' w5 hcp hb5
            obtain ⟨na, nc, FN, rfl, hT, hnd, hrg, hcap⟩ := hcp
            have B5 := Lib.hid (B3.out.trans (hb5.mono (by have := HL2.out; omega)))
            have KA5 := Lib.hid ((hb5.block _ (Array.getElem?_eq_some_iff.1 KA.out).1).trans KA3.out)
            have KR5 := Lib.hid ((hb5.block _ (Array.getElem?_eq_some_iff.1 KR.out).1).trans KR3.out)
            have S5 := Lib.hid hb5.size
            have S3 := Lib.hid (Array.getElem?_eq_some_iff.1 KS.out).1
            obtain ⟨w0, hw0⟩ : ∃ W, w5.alloc (.cells #[.int .i64 j, .slice none 0 0, .slice none 0 0, .slice na names.length nc, .slice none 0 0, .slice none 0 0, .int .i64 0, .int .i64 0] 31) = W := ⟨_, rfl⟩
            have b0 : Below w5.heap.size w5 w0 := hw0 ▸ below1 w5 _
            have B0 := Lib.hid (below_then B5.out b0)
            have KB := Lib.hid (show w0.heap[w5.heap.size]? = some (.cells #[.int .i64 j, .slice none 0 0, .slice none 0 0, .slice na names.length nc, .slice none 0 0, .slice none 0 0, .int .i64 0, .int .i64 0] 31 (0, 0)) from hw0 ▸ blk_new w5 _ rfl)
            have KA0 := Lib.hid (blk_below b0 KA5.out)
            have KR0 := Lib.hid (blk_below b0 KR5.out)
            have HT0 := Lib.hid (show OwnTxs w0 na names FN from hT.kept (fun g hg => b0.block g (hrg g hg).2))
            have HRG := Lib.hid hrg
            have HND := Lib.hid hnd
            have HCP := Lib.hid hcap
            have EW0 := Lib.hid hw0
            have Z0 := Lib.hid (show w0.heap.size = w5.heap.size + 1 by rw [← hw0]; simp)
            clear hltA
            have hltA := (Array.getElem?_eq_some_iff.1 KA5.out).1
            have hltR := (Array.getElem?_eq_some_iff.1 KR5.out).1
            clear b0 hw0 hT hrg hnd hcap k0 k1 k2 k3 k4 k5 k6 k7 hb5 KA3 KR3
            obtain ⟨k0, k1, k2, k3, k4, k5, k6, k7⟩ := vec8 KA5.out
            go_wp2
            rw [EW0.out]
            clear k0 k1 k2 k3 k4 k5 k6 k7 hltA hltR
            have hS3 := S3.out
            have hS5 := S5.out
            have hL2 := HL2.out
            have hZ0 := Z0.out
            obtain ⟨n, hn⟩ : ∃ n, items.length = n := ⟨_, rfl⟩
            rw [hn] at KA0 li CI
            have EQ := Lib.hid (show cnvL kk j items = itF (fun i => cnvI kk j (items.getD i noI)) n from by rw [← hn]; rfl)
            rw [EQ.out] at IV EV
            have HI0 := Lib.hid (fun (k : Nat) (hk : k < n) (wr : World) (kp : ∀ g, g < w0.heap.size → g ≠ w5.heap.size → wr.heap[g]? = w0.heap[g]?) => (HI.out w0 B0.out).loopK (.inr (by omega)) (by omega) kp (i := k) (by omega))
            have ST := Lib.hid (show AppK w w0 w0 w5.heap.size j (itF (fun i => cnvI kk j (items.getD i noI)) 0) none 0 0 na names.length nc from AppK.start KB.out B0.out (by omega))
            rw [hn]
            clear hn EQ
            obtain ⟨b, hb⟩ : ∃ b, w5.heap.size = b := ⟨_, rfl⟩
            rw [hb] at ST HI0 HRG hS5 hZ0 ⊢
            have hltA0 := (Array.getElem?_eq_some_iff.1 KA0.out).1
            clear hb EW0
            go_loopw [7] (fun i wr => ∃ (k : Nat) (sa : Option Addr) (sn sc : Nat), k ≤ n ∧ i = .int .i64 k ∧ AppK w w0 wr b j (itF (fun i => cnvI kk j (items.getD i noI)) k) sa sn sc na names.length nc) (fun i _ => n - (intOf i).toNat)
            case atStart => exact ⟨0, none, 0, 0, Nat.zero_le _, rfl, ST.out⟩
            case round =>
              obtain ⟨k, sa, sn, sc, hk, rfl, hap⟩ := hrel
              have AP := Lib.hid hap
              have KAr := Lib.hid (hap.blk KA0.out (by omega))
              have hlA := (Array.getElem?_eq_some_iff.1 KAr.out).1
              clear hap
              obtain ⟨k0, k1, k2, k3, k4, k5, k6, k7⟩ := vec8 KAr.out
              by_cases hlt : k < n
              · obtain ⟨ba, off, rfl, hbB, c0, c1, c2⟩ := HI0.out k hlt wr AP.out.kept
                have CK := Lib.hid (fun W hb => CI.out k W hlt hb)
                have NX := Lib.hid (itF_succ (fun i => cnvI kk j (items.getD i noI)) k)
                obtain ⟨z, hz⟩ : ∃ z : It, cnvI kk j (items.getD k noI) = z := ⟨_, rfl⟩
                rw [hz] at CK NX
                obtain ⟨x, hx⟩ : ∃ x : It, items.getD k noI = x := ⟨_, rfl⟩
                rw [hx] at c0 c1 c2 CK
                have hbw : ba < wr.heap.size := Nat.lt_of_lt_of_le hbB AP.out.size
                have LN := Lib.hid (show (itF (fun i => cnvI kk j (items.getD i noI)) k).length ≤ 1048576 by rw [itF_len]; omega)
                clear hx hz
                have hAPs := AP.out.size
                have FAR := Lib.hid (fun (q : Nat × TypeId × Array Value) (hq : q ∈ ([(wr.heap.size, 56, #[.int .i64 x.n, .int .i64 x.d, .string x.t]), (w.heap.size, 31, #[.int .i64 kk, .slice (some ⟨ba, off, none⟩) n ci, .slice ap parts.length cp, .slice an names.length cn, .slice ac cls.length cc, .slice al levels.length cl, .int .i64 code, .int .i64 env]), (b, 31, #[.int .i64 j, .slice sa sn sc, .slice none 0 0, .slice na names.length nc, .slice none 0 0, .slice none 0 0, .int .i64 0, .int .i64 0])] : List (Nat × TypeId × Array Value))) (j' : Nat) (hj' : (Value.slice sa sn sc).ownBlock = some j') => (by
                  have hr := AP.out.row.lt j' hj'
                  have hl := AP.out.lt
                  simp only [List.mem_cons, List.not_mem_nil, or_false] at hq
                  rcases hq with rfl | rfl | rfl <;> (simp only; omega) : q.1 ≠ j'))
                go_upto_region 14 with (fail)
                obtain ⟨w8, hw8⟩ : ∃ W, wr.alloc (.cells #[.int .i64 x.n, .int .i64 x.d, .string x.t] 56) = W := ⟨_, rfl⟩
                have BW8 := Lib.hid (show Below wr.heap.size wr w8 from hw8 ▸ below1 wr _)
                have X1 := Lib.hid (show w8.heap[wr.heap.size]? = some (.cells #[.int .i64 x.n, .int .i64 x.d, .string x.t] 56 (0, 0)) from hw8 ▸ blk_new wr _ rfl)
                rw [hw8]
                clear hw8
                have H := Lib.hid (show HeldC w w8 ([(wr.heap.size, 56, #[.int .i64 x.n, .int .i64 x.d, .string x.t]), (w.heap.size, 31, #[.int .i64 kk, .slice (some ⟨ba, off, none⟩) n ci, .slice ap parts.length cp, .slice an names.length cn, .slice ac cls.length cc, .slice al levels.length cl, .int .i64 code, .int .i64 env]), (b, 31, #[.int .i64 j, .slice sa sn sc, .slice none 0 0, .slice na names.length nc, .slice none 0 0, .slice none 0 0, .int .i64 0, .int .i64 0])]) from ⟨below_then AP.out.below BW8.out, fun q hq => by
                  simp only [List.mem_cons, List.not_mem_nil, or_false] at hq
                  rcases hq with rfl | rfl | rfl
                  · exact X1.out
                  · exact blk_below BW8.out KAr.out
                  · exact blk_below BW8.out AP.out.vec⟩)
                have AP := Lib.hid (AP.out.keep BW8.out)
                refine run_region (ops := (opsOf Tryd.f14 14)) (S := fun w' => HeldC w w' ([(wr.heap.size, 56, #[.int .i64 x.n, .int .i64 x.d, .string x.t]), (w.heap.size, 31, #[.int .i64 kk, .slice (some ⟨ba, off, none⟩) n ci, .slice ap parts.length cp, .slice an names.length cn, .slice ac cls.length cc, .slice al levels.length cl, .int .i64 code, .int .i64 env]), (b, 31, #[.int .i64 j, .slice sa sn sc, .slice none 0 0, .slice na names.length nc, .slice none 0 0, .slice none 0 0, .int .i64 0, .int .i64 0])])) [(0, true), (1, true), (2, true), (3, true), (4, true), (5, true), (6, false), (7, false), (8, false), (9, true), (10, false)] (by kernel_rfl) (by kernel_rfl) (by kernel_rfl) (by kernel_rfl) (by kernel_rfl) (fun _ _ _ _ _ h => h) (heldC_drew H.out) ?_
                have H := Lib.hid (heldC_drew H.out)
                have AP := Lib.hid (AP.out.keep (below_drew' (Below.refl _ _)))
                refine runC_partV (b := b) (by kernel_rfl) (show opAt (opsOf Tryd.f14 14) 0 = some (some 82, .fieldAddr 31 (.tmp 6) 1, none) from by kernel_rfl) (by kernel_rfl) (by kernel_rfl) (by kernel_rfl) ?_
                refine runC_cell (b := b) (j := 1) (v := .slice sa sn sc) load_its (show opAt (opsOf Tryd.f14 14) 1 = some (some 83, .load 28 (.tmp 82), none) from by kernel_rfl) (by kernel_rfl) (by kernel_rfl) (by kernel_rfl) (List.Mem.tail _ (List.Mem.tail _ (List.Mem.head _))) rfl ?_
                refine runC_partV (b := w.heap.size) (by kernel_rfl) (show opAt (opsOf Tryd.f14 14) 2 = some (some 84, .fieldAddr 31 (.tmp 2) 0, none) from by kernel_rfl) (by kernel_rfl) (by kernel_rfl) (by kernel_rfl) ?_
                refine runC_cell (b := w.heap.size) (j := 0) (v := .int .i64 kk) load_int (show opAt (opsOf Tryd.f14 14) 3 = some (some 85, .load 3 (.tmp 84), none) from by kernel_rfl) (by kernel_rfl) (by kernel_rfl) (by kernel_rfl) (List.Mem.tail _ (List.Mem.head _)) rfl ?_
                refine run_mov (v := .int .i64 j) (show opAt (opsOf Tryd.f14 14) 4 = some (some 86, .move (.tmp 1), none) from by kernel_rfl) (by kernel_rfl) (by kernel_rfl) (by kernel_rfl) ?_
                refine runC_itm (b := wr.heap.size) (show opAt (opsOf Tryd.f14 14) 5 = some (some 87, .load 56 (.tmp 8), none) from by kernel_rfl) (by kernel_rfl) (by kernel_rfl) (by kernel_rfl) (List.Mem.head _) ?_
                refine run_call (args := [.int .i64 kk, .int .i64 j, .agg #[.int .i64 x.n, .int .i64 x.d, .string x.t]]) (show opAt (opsOf Tryd.f14 14) 6 = some (some 88, .call { callee := .value (.func 31), args := [(.tmp 85), (.tmp 86), (.tmp 87)].toArray, argTypes := [3, 3, 56].toArray }, none) from by kernel_rfl) (by kernel_rfl) (by kernel_rfl) (by kernel_rfl) (by kernel_rfl) ?_
                refine (CK.out _ H.out.1).mono ?_
                rintro en rw1 ⟨rfl, hb⟩
                refine ⟨_, rfl, heldC_call H.out hb, ?_⟩
                have H := Lib.hid (heldC_call H.out hb)
                have AP := Lib.hid (AP.out.keep hb)
                clear hb
                refine tail_item2 z (show opAt (opsOf Tryd.f14 14) 7 = some (some 89, .buildSlice 28 1 #[(0, (.tmp 88))], none) from by kernel_rfl) (by kernel_rfl) (by kernel_rfl) (show opAt (opsOf Tryd.f14 14) 8 = some (some 90, .call { callee := .builtin .append, args := [(.tmp 83), (.tmp 89)].toArray, argTypes := [28, 28].toArray }, none) from by kernel_rfl) (by kernel_rfl) (fun _ => by kernel_rfl) (show opAt (opsOf Tryd.f14 14) 9 = some (some 91, .fieldAddr 31 (.tmp 6) 1, none) from by kernel_rfl) (by kernel_rfl) (by kernel_rfl) (fun _ _ => by kernel_rfl) (show opAt (opsOf Tryd.f14 14) 10 = some (none, .store 28 (.tmp 91) (.tmp 90), none) from by kernel_rfl) (by kernel_rfl) (by kernel_rfl) H.out AP.out.row LN.out AP.out.size (Nat.le_trans AP.out.ge (Nat.le_of_lt AP.out.lt)) (List.Mem.tail _ (List.Mem.tail _ (List.Mem.head _))) rfl AP.out.lt AP.out.ge (fun q hq => FAR.out q hq) ?_
                rintro v' w2 ⟨sa, sn, sc, rfl⟩ hK hO hB hZ hR hG
                simp only [putAll, Act.put, List.setIfInBounds_toArray, List.set_cons_zero, List.set_cons_succ]
                have AN := Lib.hid (AP.out.next hK hO hB hZ hG)
                clear hK hO hB hR hG hZ H FAR LN
                go_wp2
                go_roundw
                case rel => first | exact ⟨k + 1, _, _, _, by omega, by go_num, NX.out ▸ AN.out⟩ | ((repeat apply Exists.intro); exact ⟨⟨k + 1, _, _, _, by omega, by go_num, NX.out ▸ AN.out⟩, rfl⟩)
                case measure => simp [intOf]; omega
              · obtain rfl : k = n := by omega
                have KBX := Lib.hid AP.out.vec
                have KRX := Lib.hid (AP.out.blk KR0.out (by omega))
                have BX := Lib.hid AP.out.below
                have hAPs := AP.out.size
                obtain ⟨G, g1, g2, g3⟩ := AP.out.own HT0.out HND.out (fun g hg => by have := HRG.out g hg; omega) HCP.out
                have OX := Lib.hid (⟨G, g1, g2, fun g hg => by have := g3 g hg; rcases this.2.2 with q | q; (omega); (have := HRG.out g q; omega)⟩ : Own 1 _ _ (w.heap.size + 2) wr.heap.size wr)
                have HHX := Lib.hid (Nat.le_refl wr.heap.size)
                have LOX := Lib.hid (Nat.lt_succ_self (w.heap.size + 1))
                clear g1 g2 g3
                obtain ⟨y0, y1, y2, y3, y4, y5, y6, y7⟩ := vec8 KBX.out
                go_wp2_with fail
                with_reducible refine (IV.out wr _ (OX.out.vat HHX.out)).mono ?_
                rintro e w9 ⟨rfl, b⟩
                have B9 := Lib.hid (below_then BX.out b)
                have KB9 := Lib.hid (blk_below b KBX.out)
                have KR9 := Lib.hid (blk_below b KRX.out)
                have O9 := Lib.hid (OX.out.below b HHX.out)
                have S9 := Lib.hid b.size
                clear b y0 y1 y2 y3 y4 y5 y6 y7
                obtain ⟨y0, y1, y2, y3, y4, y5, y6, y7⟩ := vec8 KB9.out
                obtain ⟨z0, z1, z2, z3, z4, z5, z6, z7⟩ := vec8 KR9.out
                obtain ⟨f0, f1, f2, f3, f4, f5, f6, f7⟩ := free8 KR9.out
                go_wp2
                rw [EV.out, ED.out, XB.out]
                exact vec_endS rfl rfl rfl rfl KR9.out ⟨_, rfl, (O9.out.put8 LOX.out _ _ _ _ _ _ _ _).wide (by have := LOX.out; omega) (by rw [put8_size]; exact Nat.le_trans HHX.out S9.out), put8_below B9.out (Nat.le_succ _)⟩
      · have XV := Lib.hid (coe_no (d := d) (fun h => o (OC.out.1 h).2))
        by_cases h5 : kk = 5
        · have h4 : ¬ j = 4 := fun h => o (.inr ⟨h5, h⟩)
          subst h5
          clear o q Q CF CP CI OC XL XF XA XG XC FL IV
          obtain ⟨z0, z1, z2, z3, z4, z5, z6, z7⟩ := vec8 KR.out
          obtain ⟨f0, f1, f2, f3, f4, f5, f6, f7⟩ := free8 KR.out
          go_wp2
          rw [XV.out.1, XV.out.2.1, XV.out.2.2]
          exact vec_endS rfl rfl rfl rfl KR.out (zeroB _ w _ (put8_below B2.out (Nat.le_succ _)))
        · have h4 : j < kk := by omega
          clear o q Q CF CP CI OC XL XF XA XG XC FL IV
          obtain ⟨z0, z1, z2, z3, z4, z5, z6, z7⟩ := vec8 KR.out
          obtain ⟨f0, f1, f2, f3, f4, f5, f6, f7⟩ := free8 KR.out
          go_wp2
          rw [XV.out.1, XV.out.2.1, XV.out.2.2]
          exact vec_endS rfl rfl rfl rfl KR.out (zeroB _ w _ (put8_below B2.out (Nat.le_succ _)))
    · rw [decide_eq_false r]
      have XV := Lib.hid (coe_no (d := d) (j := j) (v := VV) (fun h => r (by have := (OC.out.1 h).2; omega)))
      clear r q Q CF CP CI OC XL XF XA XG XC FL IV
      obtain ⟨z0, z1, z2, z3, z4, z5, z6, z7⟩ := vec8 KR.out
      obtain ⟨f0, f1, f2, f3, f4, f5, f6, f7⟩ := free8 KR.out
      go_wp2
      rw [XV.out.1, XV.out.2.1, XV.out.2.2]
      exact vec_endS rfl rfl rfl rfl KR.out (zeroB _ w _ (put8_below B2.out (Nat.le_succ _)))
  · rw [bB_no q]
    have XV := Lib.hid (coe_no (d := d) (j := j) (fun h => q h.1))
    clear q CF CP CI OC XL XF XA XG XC FL IV
    obtain ⟨z0, z1, z2, z3, z4, z5, z6, z7⟩ := vec8 KR.out
    obtain ⟨f0, f1, f2, f3, f4, f5, f6, f7⟩ := free8 KR.out
    go_wp2
    rw [XV.out.1, XV.out.2.1, XV.out.2.2]
    exact vec_endS rfl rfl rfl rfl KR.out (zeroB _ w _ (put8_below B2.out (Nat.le_succ _)))
end Go.Proofs.YtjpdnabfpiengaaDoor
