/- FactorText, both sides. -/
import Derived.Test.YtddebgmjolojeaaDoorRows
import Derived.Test.YtddebgmjolojeaaDoorMt1
import Derived.Test.YtddebgmjolojeaaDoorMt3
import Derived.Test.YtddebgmjolojeaaDoorMt4
import Derived.Test.YtddebgmjolojeaaDoorMt2
import Derived.WalkKit
import Derived.OwnWalk
import Derived.Deep.DeepCutAuto
import Derived.Lib.Hide
namespace Go.Proofs.YtddebgmjolojeaaDoor
open Go.RowKit
set_option maxRecDepth 100000
set_option linter.unusedVariables false

def nfaB : ByteArray := ⟨#[110, 111, 116, 32, 97, 32, 102, 97, 99, 116, 111, 114]⟩
/-- What FactorText answers. -/
noncomputable def ftV (v : Vec) : Vec := match bB (FacV v), v with
  | true, .mk kk items _ names _ levels _ _ => mkN 3 (txsL kk items levels) names
  | false, _ => noV
noncomputable def ftS (v : Vec) : ByteArray := match bB (FacV v) with
  | true => ⟨#[]⟩
  | false => nfaB
theorem ft_not {v : Vec} (h : ¬ FacV v) : ftV v = noV ∧ ftS v = nfaB := by unfold ftV ftS; rw [bB_no h]; exact ⟨rfl, rfl⟩
theorem ft_yes {kk : Int} {items : List It} {parts : List Vec} {names cls levels : List ByteArray} {code env : Int} (h : FacV (.mk kk items parts names cls levels code env)) : ftV (.mk kk items parts names cls levels code env) = mkN 3 (txsL kk items levels) names ∧ ftS (.mk kk items parts names cls levels code env) = ⟨#[]⟩ := by unfold ftV ftS; rw [bB_yes h]; exact ⟨rfl, rfl⟩
/-- A factor is a vector of numbers. -/
theorem fac_two {kk : Int} {items : List It} {parts : List Vec} {names cls levels : List ByteArray} {code env : Int} (h : FacV (.mk kk items parts names cls levels code env)) : kk = 2 := by
  have hf : FlatOk kk items parts.length names cls levels code env := h.1.1.flat
  by_cases e : kk = 2
  · exact e
  · exact absurd (hf.h_noLevels e) h.2.1
theorem fac_atm {kk : Int} {items : List It} {parts : List Vec} {names cls levels : List ByteArray} {code env : Int} (h : FacV (.mk kk items parts names cls levels code env)) : AtmOk kk items levels := atm_ok h.1 (by rw [fac_two h]; decide)
theorem cnvL_self (k : Int) (l : List It) : cnvL k k l = l := by
  unfold cnvL itF
  refine List.ext_getElem (by simp) (fun i h1 h2 => ?_)
  have h3 : i < l.length := h2
  simp only [List.getElem_map, List.getElem_range]
  rw [cnv_same (.inl rfl), List.getD_eq_getElem?_getD, List.getElem?_eq_getElem h3]; rfl
/-- The texts of a factor's elements are its elements taken plain. -/
theorem fac_txs {kk : Int} {items : List It} {parts : List Vec} {names cls levels : List ByteArray} {code env : Int} (h : FacV (.mk kk items parts names cls levels code env)) : txsL kk items levels = plnL levels items ∧ plnK kk levels = 3 := by
  have e := plnK_yes (k := kk) h.2.1
  exact ⟨by unfold txsL; rw [e, cnvL_self], e⟩
theorem build_txs {w : World} {a b : Option Addr} {n m n' m' : Nat} : (Instr.build 31 #[(0, .int .i64 3), (1, .slice a n m), (3, .slice b n' m')]).run Tryd.prog w = .ok (.agg #[.int .i64 3, .slice a n m, .slice none 0 0, .slice b n' m', .slice none 0 0, .slice none 0 0, .int .i64 0, .int .i64 0]) w := by
  kernel_rfl
section
variable {ops : Array Oper} {Q : Exit → Act → World → Prop} {S : World → Prop}
variable {r : List (Nat × Bool)} {a : Act} {e : List (Nat × Value)} {w : World} {i d : Nat} {g : Option (Nat × Bool)}
theorem run_bldTxs {x y : Operand} {sa sb : Option Addr} {n m n' m' : Nat} (ho : opAt ops i = some (some d, .build 31 #[(0, .const (.int .i64 3)), (1, x), (3, y)], g)) (hd : Nat.blt d a.tmps.size = true) (hw : wantE ops a e g = some true)
    (hx : lookO a e x = .slice sa n m) (hy : lookO a e y = .slice sb n' m') (hS : S w)
    (h : RunE Tryd.prog ops Q S r a ((d, .agg #[.int .i64 3, .slice sa n m, .slice none 0 0, .slice sb n' m', .slice none 0 0, .slice none 0 0, .int .i64 0, .int .i64 0]) :: e) w) : RunE Tryd.prog ops Q S ((i, false) :: r) a e w := by
  have hc : lookO a e (.const (.int .i64 3)) = .int .i64 3 := rfl
  refine run_eff ho hd hw (fun o h1 => ?_) hS h
  unfold execOp
  simp only [h1, List.map_toArray, List.map_cons, List.map_nil, hx, hy, hc]
  exact run_v build_txs
end
theorem its_own {k : Int} {L : List It} {names : List ByteArray} {ai an pa ca la : Option Addr} {ci cn pc cc lc l1 h1 l2 h2 lo : Nat} {Fi Fn : List Nat} {w : World} (hI : ItsC ai ci L Fi l1 h1 w) (hN : TxsC an cn names Fn l2 h2 w) (e0 : lo ≤ l1) (e1 : l1 ≤ h1) (e12 : h1 ≤ l2) :
    Own 1 (mkN k L names) (.agg #[.int .i64 k, .slice ai L.length ci, .slice pa 0 pc, .slice an names.length cn, .slice ca 0 cc, .slice la 0 lc, .int .i64 0, .int .i64 0]) lo w.heap.size w := by
  have q1 := hI.hw
  have q2 := hN.hw
  refine ⟨Fi ++ ([] ++ (Fn ++ ([] ++ []))), ?_, ?_, ?_⟩
  · show OwnVec w 1 (.mk k L [] names [] [] 0 0) _ _
    unfold OwnVec
    exact ⟨ai, ci, pa, pc, an, cn, ca, cc, la, lc, Fi, [], Fn, [], [], rfl, rfl, ⟨hI.cap, Nat.zero_le _, hN.cap, Nat.zero_le _, Nat.zero_le _⟩, hI.own, hN.own, .inl ⟨rfl, rfl⟩, .inl ⟨rfl, rfl⟩, .inl ⟨rfl, rfl⟩⟩
  · rw [List.nil_append, List.append_nil, List.append_nil, List.nodup_append]
    exact ⟨hI.nd, hN.nd, fun x hx y hy e => by have := hI.rg x hx; have := hN.rg y hy; omega⟩
  · intro g hg
    rw [List.nil_append, List.append_nil, List.append_nil] at hg
    rcases List.mem_append.1 hg with hg | hg
    · have := hI.rg g hg; omega
    · have := hN.rg g hg; omega
set_option maxHeartbeats 4000000 in
theorem implPlainOwn (d : Nat) (kk : Int) (items : List It) (parts : List Vec) (names cls levels : List ByteArray) (code env : Int) (val : Value) (lo hi : Nat) (w : World) (hv : VecAt lo hi w d (.mk kk items parts names cls levels code env) val) (hhi : hi ≤ w.heap.size) (ok : AtmOk kk items levels) (tab : Lib.TabIs Tryd.prog w "internal/strconv.uint64pow10" .u64 Lib.pow10Tab) :
    Calls Tryd.prog 27 #[val] w fun e w' => (∃ a c F, e = .returned (.slice a (txsL kk items levels).length c) ∧ ItsC a c (txsL kk items levels) F w.heap.size w'.heap.size w') ∧ Below w.heap.size w w' := by
  have CP := Lib.hid (fun (W : World) (hb : Below w.heap.size w W) => implPlain d kk items parts names cls levels code env val lo hi W (hv.below hb hhi) (Nat.le_trans hhi hb.size) ok)
  have hpk := ok.pk
  have CC := Lib.hid (fun (W : World) (y : Value) (h : VecAt 0 W.heap.size W 1 (vecOf (plnK kk levels) (plnL levels items)) y) (hb : Below w.heap.size w W) => (by have q := implConv 1 (plnK kk levels) 3 (plnL levels items) [] [] [] [] 0 0 y 0 W.heap.size W h (Nat.le_refl _) hpk.1 hpk.2.1 (Int.le_refl _) (by rw [plnL_len]; exact ok.len) (by simp) (fun i hi => ok.pln (by rwa [plnL_len] at hi)) (tab_below tab hb); exact q : Calls Tryd.prog 44 #[y, .int .i64 3] W (ResV 1 (mkN 3 (txsL kk items levels) []) W)))
  obtain ⟨X, hX⟩ : ∃ X, txsL kk items levels = X := ⟨_, rfl⟩
  rw [hX] at CC ⊢
  obtain ⟨d', ai, ci, ap, cp, an, cn, ac, cc, al, cl, ed, rfl, hI, hN, hC, hL, hP⟩ := vecAt_open hv
  clear hv hI hN hC hL hP ed hX ok hpk tab
  have B0 := Lib.hid (below1 w (.cells #[.int .i64 kk, .slice ai items.length ci, .slice ap parts.length cp, .slice an names.length cn, .slice ac cls.length cc, .slice al levels.length cl, .int .i64 code, .int .i64 env] 31))
  go_enter Tryd.func27, Tryd.ntmps27
  go_wp2_with fail
  with_reducible refine (CP.out _ B0.out).mono ?_
  rintro e w2 ⟨y, rfl, ho, b⟩
  have B2 := Lib.hid (below_then B0.out b)
  have O2 := Lib.hid (ho.vat (Nat.le_refl _))
  clear ho b
  go_wp2_with fail
  with_reducible refine (CC.out _ _ O2.out B2.out).mono ?_
  rintro e w3 ⟨y3, rfl, ho, b⟩
  obtain ⟨bi, di, bp, dp, bn, dn, bc, dc, bl, dl, Fi, rfl, hit⟩ := its_of_own (show Own 1 (vecOf 3 X) y3 w2.heap.size w3.heap.size w3 from ho) (Nat.le_refl _)
  have IT := Lib.hid (⟨hit.own, hit.nd, fun g hg => ⟨Nat.le_trans B2.out.size (hit.rg g hg).1, (hit.rg g hg).2⟩, hit.hw, hit.cap⟩ : ItsC bi di X Fi w.heap.size w3.heap.size w3)
  have B3 := Lib.hid (below_then B2.out b)
  clear hit ho b
  have EF := field_its (w := w3) (c0 := .int .i64 3) (a := bi) (n := X.length) (c := di) (c2 := .slice bp 0 dp) (c3 := .slice bn 0 dn) (c4 := .slice bc 0 dc) (c5 := .slice bl 0 dl) (c6 := .int .i64 0) (c7 := .int .i64 0)
  go_wp2
  go_ret
  exact ⟨⟨_, _, _, rfl, IT.out⟩, B3.out⟩
set_option maxHeartbeats 8000000 in
theorem implFactorText (d : Nat) (v : Vec) (val : Value) (lo hi : Nat) (w : World) (hv : VecAt lo hi w d v val) (hhi : hi ≤ w.heap.size) (hsm : Small d v) (tab : Lib.TabIs Tryd.prog w "internal/strconv.uint64pow10" .u64 Lib.pow10Tab) :
    Calls Tryd.prog 8 #[val] w (ResVS 1 (ftV v) (ftS v) w) := by
  have C1 := Lib.hid (fun (w1 : World) (hb : Below w.heap.size w w1) => implIsFactor d v val lo hi w1 (hv.below hb hhi) (Nat.le_trans hhi hb.size) hsm)
  obtain ⟨VV, hVV⟩ : ∃ V, v = V := ⟨_, rfl⟩
  rw [hVV] at C1 ⊢
  obtain ⟨kk, items, parts, names, cls, levels, code, env⟩ := v
  have hv0 := hv
  obtain ⟨d', ai, ci, ap, cp, an, cn, ac, cc, al, cl, ed, rfl, hI, hN, hC, hL, hP⟩ := vecAt_open hv
  subst ed
  have ln : names.length ≤ 1048576 := hsm.2.2.1
  have AT := Lib.hid (fun (h : FacV VV) => (by rw [← hVV] at h; exact fac_atm h : AtmOk kk items levels))
  have CN := Lib.hid (fun (w1 : World) (hb : Below w.heap.size w w1) => implCopyAny names an cn lo hi w1 (hN.below hb hhi) ln)
  have CT := Lib.hid (fun (ok : AtmOk kk items levels) (W : World) (hb : Below w.heap.size w W) => implPlainOwn _ kk items parts names cls levels code env _ lo hi W (hv0.below hb hhi) (Nat.le_trans hhi hb.size) ok (tab_below tab hb))
  have XY := Lib.hid (fun (h : FacV VV) => (by rw [← hVV] at h ⊢; exact ft_yes h : ftV VV = mkN 3 (txsL kk items levels) names ∧ ftS VV = ⟨#[]⟩))
  have XN := Lib.hid (fun (h : ¬ FacV VV) => ft_not h)
  obtain ⟨X, hX⟩ : ∃ X, txsL kk items levels = X := ⟨_, rfl⟩
  rw [hX] at CT XY
  obtain ⟨RV, hRV⟩ : ∃ y, ftV VV = y := ⟨_, rfl⟩
  obtain ⟨RS, hRS⟩ : ∃ y, ftS VV = y := ⟨_, rfl⟩
  rw [hRV, hRS] at XY XN ⊢
  clear hv hv0 hI hN hC hL hP hsm hVV hX tab hRV hRS
  go_enter Tryd.func8, Tryd.ntmps8
  go_wp2_with fail
  obtain ⟨w1, hw1⟩ : ∃ W, (w.alloc (.cells #[.int .i64 kk, .slice ai items.length ci, .slice ap parts.length cp, .slice an names.length cn, .slice ac cls.length cc, .slice al levels.length cl, .int .i64 code, .int .i64 env] 31)).alloc (.cells #[.int .i64 0, .slice none 0 0, .slice none 0 0, .slice none 0 0, .slice none 0 0, .slice none 0 0, .int .i64 0, .int .i64 0] 31) = W := ⟨_, rfl⟩
  have hs1 : (w.alloc (.cells #[.int .i64 kk, .slice ai items.length ci, .slice ap parts.length cp, .slice an names.length cn, .slice ac cls.length cc, .slice al levels.length cl, .int .i64 code, .int .i64 env] 31)).heap.size = w.heap.size + 1 := by simp
  have B1 := Lib.hid (show Below w.heap.size w w1 from hw1 ▸ below2 w _ _)
  have KA := Lib.hid (show w1.heap[w.heap.size]? = some (.cells #[.int .i64 kk, .slice ai items.length ci, .slice ap parts.length cp, .slice an names.length cn, .slice ac cls.length cc, .slice al levels.length cl, .int .i64 code, .int .i64 env] 31 (0, 0)) from hw1 ▸ blk_old (blk_new w _ rfl))
  have KR := Lib.hid (show w1.heap[w.heap.size + 1]? = some (.cells #[.int .i64 0, .slice none 0 0, .slice none 0 0, .slice none 0 0, .slice none 0 0, .slice none 0 0, .int .i64 0, .int .i64 0] 31 (0, 0)) from hw1 ▸ blk_new _ _ hs1.symm)
  rw [hw1]
  clear hw1 hs1
  with_reducible refine (C1.out _ B1.out).mono ?_
  rintro e w2 ⟨rfl, b⟩
  have B2 := Lib.hid (below_then B1.out b)
  have KA := Lib.hid (blk_below b KA.out)
  have KR := Lib.hid (blk_below b KR.out)
  clear b C1
  by_cases q : FacV VV
  · have XV1 := Lib.hid (XY.out q)
    have CT := Lib.hid (CT.out (AT.out q))
    rw [bB_yes q]
    clear q XY XN AT
    go_upto_region 3 with (fail)
    have hrl : w.heap.size + 1 < w2.heap.size := (Array.getElem?_eq_some_iff.1 KR.out).1
    have H := Lib.hid (show HeldC w w2 ([(w.heap.size, 31, #[.int .i64 kk, .slice ai items.length ci, .slice ap parts.length cp, .slice an names.length cn, .slice ac cls.length cc, .slice al levels.length cl, .int .i64 code, .int .i64 env])]) from heldC_one B2.out KA.out)
    have KR := Lib.hid (⟨KR.out⟩ : NewB (w.heap.size + 1) 31 #[.int .i64 0, .slice none 0 0, .slice none 0 0, .slice none 0 0, .slice none 0 0, .slice none 0 0, .int .i64 0, .int .i64 0] w2)
    have BS := Lib.hid (show w.heap.size ≤ w2.drew.heap.size from B2.out.size)
    clear KA
    refine run_region (ops := (opsOf Tryd.f8 3)) (S := fun w' => HeldC w w' ([(w.heap.size, 31, #[.int .i64 kk, .slice ai items.length ci, .slice ap parts.length cp, .slice an names.length cn, .slice ac cls.length cc, .slice al levels.length cl, .int .i64 code, .int .i64 env])])) [(0, true), (2, true), (3, true), (1, false), (4, false), (5, false), (6, false), (7, true)] (by kernel_rfl) (by kernel_rfl) (by kernel_rfl) (by kernel_rfl) (by kernel_rfl) (fun _ _ _ _ _ h => h) (heldC_drew H.out) ?_
    have H := Lib.hid (heldC_drew H.out)
    have KR := Lib.hid (KR.out.keep (below_drew' (Below.refl _ _)))
    refine runC_vec (b := w.heap.size) (show opAt (opsOf Tryd.f8 3) 0 = some (some 8, .load 31 (.tmp 1), none) from by kernel_rfl) (by kernel_rfl) (by kernel_rfl) (by kernel_rfl) (List.Mem.head _) ?_
    refine runC_partV (b := w.heap.size) (by kernel_rfl) (show opAt (opsOf Tryd.f8 3) 2 = some (some 10, .fieldAddr 31 (.tmp 1) 3, none) from by kernel_rfl) (by kernel_rfl) (by kernel_rfl) (by kernel_rfl) ?_
    refine runC_cell (b := w.heap.size) (j := 3) (v := .slice an names.length cn) load_strs (show opAt (opsOf Tryd.f8 3) 3 = some (some 11, .load 24 (.tmp 10), none) from by kernel_rfl) (by kernel_rfl) (by kernel_rfl) (by kernel_rfl) (List.Mem.head _) rfl ?_
    refine run_call (args := [.agg #[.int .i64 kk, .slice ai items.length ci, .slice ap parts.length cp, .slice an names.length cn, .slice ac cls.length cc, .slice al levels.length cl, .int .i64 code, .int .i64 env]]) (show opAt (opsOf Tryd.f8 3) 1 = some (some 9, .call { callee := .value (.func 27), args := [(.tmp 8)].toArray, argTypes := [31].toArray }, none) from by kernel_rfl) (by kernel_rfl) (by kernel_rfl) (by kernel_rfl) (by kernel_rfl) ?_
    refine (CT.out _ H.out.1).mono ?_
    rintro en rw1 ⟨⟨si, ci', Fi, rfl, hI⟩, hb⟩
    have OI := Lib.hid hI
    have S1 := Lib.hid hb.size
    refine ⟨_, rfl, heldC_call H.out hb, ?_⟩
    have KR := Lib.hid (KR.out.keep hb)
    have H := Lib.hid (heldC_call H.out hb)
    clear hI hb
    refine run_call (args := [.slice an names.length cn]) (show opAt (opsOf Tryd.f8 3) 4 = some (some 12, .call { callee := .value (.func 28), args := [(.tmp 11)].toArray, argTypes := [24].toArray }, none) from by kernel_rfl) (by kernel_rfl) (by kernel_rfl) (by kernel_rfl) (by kernel_rfl) ?_
    refine (CN.out _ H.out.1).mono ?_
    rintro en rw2 ⟨vn, rfl, hcp, hb⟩
    obtain ⟨sn, cn', Fn, rfl, ht⟩ := TxsC.of hcp
    have OI := Lib.hid (OI.out.keep hb)
    have TN := Lib.hid ht
    have S2 := Lib.hid hb.size
    refine ⟨_, rfl, heldC_call H.out hb, ?_⟩
    have KR := Lib.hid (KR.out.keep hb)
    have H := Lib.hid (heldC_call H.out hb)
    clear hcp hb ht
    refine run_bldTxs (sa := si) (n := X.length) (m := ci') (sb := sn) (n' := names.length) (m' := cn') (show opAt (opsOf Tryd.f8 3) 5 = some (some 13, .build 31 #[(0, (.const (.int .i64 3))), (1, (.tmp 9)), (3, (.tmp 12))], none) from by kernel_rfl) (by kernel_rfl) (by kernel_rfl) (by kernel_rfl) (by kernel_rfl) H.out ?_
    refine run_store (w' := rw2.setRow (w.heap.size + 1) #[.int .i64 3, .slice si X.length ci', .slice none 0 0, .slice sn names.length cn', .slice none 0 0, .slice none 0 0, .int .i64 0, .int .i64 0]) (show opAt (opsOf Tryd.f8 3) 6 = some (none, .store 31 (.tmp 2) (.tmp 13), none) from by kernel_rfl) (by kernel_rfl) (by kernel_rfl) (by kernel_rfl) (store_vec8 KR.out.out (by simp [Value.oneCell'])) ⟨below_row H.out.1 (Nat.le_succ _) _, fun q hq => row_old (H.out.2 q hq) (by obtain rfl := List.mem_singleton.1 hq; simp only; omega)⟩ ?_
    refine run_asg (v := .string ⟨#[]⟩) (show opAt (opsOf Tryd.f8 3) 7 = some (some 3, .assign (.const (.string ⟨#[]⟩)), none) from by kernel_rfl) (by kernel_rfl) (by kernel_rfl) (by kernel_rfl) ?_
    refine run_done ?_
    simp only [putAll, Act.put, List.setIfInBounds_toArray, List.set_cons_zero, List.set_cons_succ]
    have OW := Lib.hid (its_own (k := 3) (pa := none) (pc := 0) (ca := none) (cc := 0) (la := none) (lc := 0) (lo := w2.drew.heap.size) OI.out TN.out (Nat.le_refl _) S1.out (Nat.le_refl _))
    have BH := Lib.hid H.out.1
    have KRS := Lib.hid (row_set (c := #[.int .i64 3, .slice si X.length ci', .slice none 0 0, .slice sn names.length cn', .slice none 0 0, .slice none 0 0, .int .i64 0, .int .i64 0]) KR.out.out)
    clear H KR OI TN
    go_wp2
    rw [XV1.out.1, XV1.out.2]
    exact vec_ret0S rfl rfl rfl rfl KRS.out ⟨_, rfl, (OW.out.row (show w.heap.size + 1 < w2.drew.heap.size from hrl)).wide BS.out (row_size _ _ _), below_row BH.out (Nat.le_succ _) _⟩
  · have XV1 := Lib.hid (XN.out q)
    rw [bB_no q]
    clear q XY XN AT CT
    obtain ⟨k0, k1, k2, k3, k4, k5, k6, k7⟩ := vec8 KA.out
    obtain ⟨z0, z1, z2, z3, z4, z5, z6, z7⟩ := vec8 KR.out
    obtain ⟨f0, f1, f2, f3, f4, f5, f6, f7⟩ := free8 KR.out
    go_wp2
    rw [XV1.out.1, XV1.out.2]
    exact vec_endS rfl rfl rfl rfl KR.out (zeroS _ w _ (put8_below B2.out (Nat.le_succ _)))
set_option maxHeartbeats 8000000 in
theorem specFactorText (d : Nat) (v : Vec) (val : Value) (lo hi : Nat) (w : World) (hv : VecAt lo hi w d v val) (hhi : hi ≤ w.heap.size) (hsm : Small d v) :
    Calls Tryd.prog 6 #[val] w (ResVS 1 (ftV v) (ftS v) w) := by
  have C1 := Lib.hid (fun (w1 : World) (hb : Below w.heap.size w w1) => specIsFactor d v val lo hi w1 (hv.below hb hhi) (Nat.le_trans hhi hb.size) hsm)
  obtain ⟨VV, hVV⟩ : ∃ V, v = V := ⟨_, rfl⟩
  rw [hVV] at C1 ⊢
  obtain ⟨kk, items, parts, names, cls, levels, code, env⟩ := v
  have hv0 := hv
  obtain ⟨d', ai, ci, ap, cp, an, cn, ac, cc, al, cl, ed, rfl, hI, hN, hC, hL, hP⟩ := vecAt_open hv
  subst ed
  have ln : names.length ≤ 1048576 := hsm.2.2.1
  have AT := Lib.hid (fun (h : FacV VV) => (by rw [← hVV] at h; exact fac_atm h : AtmOk kk items levels))
  have HN := Lib.hid (fun (w1 : World) (hb : Below w.heap.size w w1) => hN.below hb hhi)
  have CP := Lib.hid (fun (ok : AtmOk kk items levels) (e : plnK kk levels = 3) (W : World) (hb : Below w.heap.size w W) => (by have q := specPlain _ kk items parts names cls levels code env _ lo hi W (hv0.below hb hhi) (Nat.le_trans hhi hb.size) ok; rw [e] at q; exact q : Calls Tryd.prog 24 #[.agg #[.int .i64 kk, .slice ai items.length ci, .slice ap parts.length cp, .slice an names.length cn, .slice ac cls.length cc, .slice al levels.length cl, .int .i64 code, .int .i64 env]] W (ResV 1 (vecOf 3 (plnL levels items)) W)))
  have XY := Lib.hid (fun (h : FacV VV) => (by rw [← hVV] at h ⊢; have e := fac_txs h; rw [← e.1]; exact ⟨ft_yes h, e.2⟩ : (ftV VV = mkN 3 (plnL levels items) names ∧ ftS VV = ⟨#[]⟩) ∧ plnK kk levels = 3))
  have XN := Lib.hid (fun (h : ¬ FacV VV) => ft_not h)
  obtain ⟨X, hX⟩ : ∃ X, plnL levels items = X := ⟨_, rfl⟩
  rw [hX] at CP XY
  obtain ⟨RV, hRV⟩ : ∃ y, ftV VV = y := ⟨_, rfl⟩
  obtain ⟨RS, hRS⟩ : ∃ y, ftS VV = y := ⟨_, rfl⟩
  rw [hRV, hRS] at XY XN ⊢
  clear hv hv0 hI hN hC hL hP hsm hVV hX hRV hRS
  go_enter Tryd.func6, Tryd.ntmps6
  go_wp2_with fail
  obtain ⟨w1, hw1⟩ : ∃ W, (w.alloc (.cells #[.int .i64 kk, .slice ai items.length ci, .slice ap parts.length cp, .slice an names.length cn, .slice ac cls.length cc, .slice al levels.length cl, .int .i64 code, .int .i64 env] 31)).alloc (.cells #[.int .i64 0, .slice none 0 0, .slice none 0 0, .slice none 0 0, .slice none 0 0, .slice none 0 0, .int .i64 0, .int .i64 0] 31) = W := ⟨_, rfl⟩
  have hs1 : (w.alloc (.cells #[.int .i64 kk, .slice ai items.length ci, .slice ap parts.length cp, .slice an names.length cn, .slice ac cls.length cc, .slice al levels.length cl, .int .i64 code, .int .i64 env] 31)).heap.size = w.heap.size + 1 := by simp
  have B1 := Lib.hid (show Below w.heap.size w w1 from hw1 ▸ below2 w _ _)
  have KA := Lib.hid (show w1.heap[w.heap.size]? = some (.cells #[.int .i64 kk, .slice ai items.length ci, .slice ap parts.length cp, .slice an names.length cn, .slice ac cls.length cc, .slice al levels.length cl, .int .i64 code, .int .i64 env] 31 (0, 0)) from hw1 ▸ blk_old (blk_new w _ rfl))
  have KR := Lib.hid (show w1.heap[w.heap.size + 1]? = some (.cells #[.int .i64 0, .slice none 0 0, .slice none 0 0, .slice none 0 0, .slice none 0 0, .slice none 0 0, .int .i64 0, .int .i64 0] 31 (0, 0)) from hw1 ▸ blk_new _ _ hs1.symm)
  rw [hw1]
  clear hw1 hs1
  with_reducible refine (C1.out _ B1.out).mono ?_
  rintro e w2 ⟨rfl, b⟩
  have B2 := Lib.hid (below_then B1.out b)
  have KA := Lib.hid (blk_below b KA.out)
  have KR := Lib.hid (blk_below b KR.out)
  clear b C1
  by_cases q : FacV VV
  · have XV1 := Lib.hid (XY.out q).1
    have CP := Lib.hid (CP.out (AT.out q) (XY.out q).2)
    rw [bB_yes q]
    clear q XY XN AT
    obtain ⟨k0, k1, k2, k3, k4, k5, k6, k7⟩ := vec8 KA.out
    go_wp2_with fail
    with_reducible refine (CP.out _ B2.out).mono ?_
    rintro e w3 ⟨y, rfl, ho, b⟩
    obtain ⟨bi, di, bp, dp, bn, dn, bc, dc, bl, dl, Fi, rfl, hit⟩ := its_of_own ho (Nat.le_refl _)
    have IT := Lib.hid hit
    have hrl : w.heap.size + 1 < w2.heap.size := (Array.getElem?_eq_some_iff.1 KR.out).1
    have B3 := Lib.hid (below_then B2.out b)
    have KA := Lib.hid (blk_below b KA.out)
    have KR := Lib.hid (blk_below b KR.out)
    have S3 := Lib.hid b.size
    clear b ho hit CP k0 k1 k2 k3 k4 k5 k6 k7
    obtain ⟨n, hn⟩ : ∃ n, X.length = n := ⟨_, rfl⟩
    have HLN := Lib.hid hn
    rw [hn]
    clear hn
    obtain ⟨bx, hbx⟩ : ∃ b, w3.heap.size = b := ⟨_, rfl⟩
    obtain ⟨w4, hw4⟩ : ∃ W, w3.alloc (.cells #[.int .i64 3, .slice bi n di, .slice bp 0 dp, .slice bn 0 dn, .slice bc 0 dc, .slice bl 0 dl, .int .i64 0, .int .i64 0] 31) = W := ⟨_, rfl⟩
    have KX := Lib.hid (show w4.heap[bx]? = some (.cells #[.int .i64 3, .slice bi n di, .slice bp 0 dp, .slice bn 0 dn, .slice bc 0 dc, .slice bl 0 dl, .int .i64 0, .int .i64 0] 31 (0, 0)) from hw4 ▸ blk_new w3 _ hbx.symm)
    have KA := Lib.hid (show w4.heap[w.heap.size]? = some (.cells #[.int .i64 kk, .slice ai items.length ci, .slice ap parts.length cp, .slice an names.length cn, .slice ac cls.length cc, .slice al levels.length cl, .int .i64 code, .int .i64 env] 31 (0, 0)) from hw4 ▸ blk_old KA.out)
    have KR := Lib.hid (show w4.heap[w.heap.size + 1]? = some (.cells #[.int .i64 0, .slice none 0 0, .slice none 0 0, .slice none 0 0, .slice none 0 0, .slice none 0 0, .int .i64 0, .int .i64 0] 31 (0, 0)) from hw4 ▸ blk_old KR.out)
    have BW := Lib.hid (show Below w.heap.size w w4 from hw4 ▸ B3.out.alloc B3.out.size _)
    have IT := Lib.hid (show ItsC bi di X Fi w2.heap.size bx w4 from hw4 ▸ hbx ▸ IT.out.keep (below1 w3 _))
    have S4 := Lib.hid (show w4.heap.size = bx + 1 from hw4 ▸ (by simp [hbx]))
    have hbl : bx < w4.heap.size := by rw [S4.out]; omega
    have hwb : w.heap.size + 1 < bx := by have := S3.out; omega
    have hwa : w.heap.size < w4.heap.size := by omega
    have EW4 := Lib.hid hw4
    have EBX := Lib.hid hbx
    clear hbx hw4 B3
    go_upto_region 4 with (fail)
    rw [EW4.out, EBX.out]
    obtain ⟨k0, k1, k2, k3, k4, k5, k6, k7⟩ := vec8 KA.out
    go_wp2_with (at_builtin; go_loud (refine wpList_copyTexts rfl _ _ rfl w4.heap.size _ rfl (.inr ⟨w4.heap.size, Nat.le_refl _, rfl, blk_new _ _ rfl⟩) an cn names lo hi rfl (HN.out _ (BW.out.alloc BW.out.size _)) ln (Nat.le_of_lt (by simp)) ?_))
    intro v5 w5 hcp hb5
    obtain ⟨sn, qn, Fn, rfl, ht⟩ := TxsC.of hcp
    have b6 : Below w4.heap.size w4 w5 := (below1 w4 _).trans hb5
    have BW := Lib.hid (below_then BW.out b6)
    have KX := Lib.hid (blk_below b6 KX.out)
    have KR := Lib.hid (blk_below b6 KR.out)
    have IT := Lib.hid (IT.out.keep b6)
    have TN := Lib.hid ht
    have S5 := Lib.hid b6.size
    have hbl2 : bx < w5.heap.size := Nat.lt_of_lt_of_le hbl b6.size
    clear b6 hb5 ht hcp KA k0 k1 k2 k3 k4 k5 k6 k7
    obtain ⟨g0, g1, g2, g3, g4, g5, g6, g7⟩ := vec8 KX.out
    obtain ⟨f0, f1, f2, f3, f4, f5, f6, f7⟩ := free8 KX.out
    go_upto_region 5 with (fail)
    clear g0 g1 g2 g3 g4 g5 g6 g7 f0 f1 f2 f3 f4 f5 f6 f7
    obtain ⟨w6, hw⟩ : ∃ W, w5.setCell ⟨bx, 3, none⟩ (.slice sn names.length qn) = W := ⟨_, rfl⟩
    have hk : ∀ g, g ≠ bx → w6.heap[g]? = w5.heap[g]? := fun g hg => hw ▸ Below.heap_setCell _ _ _ _ hg
    have KX := Lib.hid (show w6.heap[bx]? = some (.cells #[.int .i64 3, .slice bi n di, .slice bp 0 dp, .slice sn names.length qn, .slice bc 0 dc, .slice bl 0 dl, .int .i64 0, .int .i64 0] 31 (0, 0)) from hw ▸ Joins.block_setCell KX.out _)
    have KR := Lib.hid ((hk _ (show w.heap.size + 1 ≠ bx by omega)).trans KR.out)
    have BW := Lib.hid (show Below w.heap.size w w6 from hw ▸ BW.out.setCell (p := ⟨bx, 3, none⟩) (show w.heap.size ≤ bx by omega) _)
    have SZ := Lib.hid (show w6.heap.size = w5.heap.size from hw ▸ (by simp))
    have IT := Lib.hid (show ItsC bi di X Fi w2.heap.size bx w6 from IT.out.same (fun g h1 h2 => hk g (by omega)) (by rw [SZ.out]; exact Nat.le_refl _))
    have TN := Lib.hid (show TxsC sn qn names Fn w4.heap.size w5.heap.size w6 from TN.out.same (fun g h1 h2 => hk g (by have := S4.out; omega)) (by rw [SZ.out]; exact Nat.le_refl _))
    rw [hw]
    clear hw hk
    have OW := Lib.hid (show Own 1 RV (.agg #[.int .i64 3, .slice bi n di, .slice bp 0 dp, .slice sn names.length qn, .slice bc 0 dc, .slice bl 0 dl, .int .i64 0, .int .i64 0]) w2.heap.size w6.heap.size w6 from by
      have e1 := S3.out
      have e2 := S4.out
      have e3 := EBX.out
      have q := its_own (k := 3) (pa := bp) (pc := dp) (ca := bc) (cc := dc) (la := bl) (lc := dl) (lo := w2.heap.size) IT.out TN.out (Nat.le_refl _) (by omega) (by omega)
      rw [HLN.out] at q
      rw [XV1.out.1]
      exact q)
    have L2 := Lib.hid B2.out.size
    obtain ⟨g0, g1, g2, g3, g4, g5, g6, g7⟩ := vec8 KX.out
    obtain ⟨z0, z1, z2, z3, z4, z5, z6, z7⟩ := vec8 KR.out
    obtain ⟨f0, f1, f2, f3, f4, f5, f6, f7⟩ := free8 KR.out
    go_wp2
    rw [XV1.out.2]
    exact vec_endS rfl rfl rfl rfl KR.out ⟨_, rfl, (OW.out.put8 hrl _ _ _ _ _ _ _ _).wide L2.out (by rw [put8_size]; exact Nat.le_refl _), put8_below BW.out (Nat.le_succ _)⟩
  · have XV1 := Lib.hid (XN.out q)
    rw [bB_no q]
    clear q XY XN AT CP
    obtain ⟨k0, k1, k2, k3, k4, k5, k6, k7⟩ := vec8 KA.out
    obtain ⟨z0, z1, z2, z3, z4, z5, z6, z7⟩ := vec8 KR.out
    obtain ⟨f0, f1, f2, f3, f4, f5, f6, f7⟩ := free8 KR.out
    go_wp2
    rw [XV1.out.1, XV1.out.2]
    exact vec_endS rfl rfl rfl rfl KR.out (zeroS _ w _ (put8_below B2.out (Nat.le_succ _)))
end Go.Proofs.YtddebgmjolojeaaDoor
