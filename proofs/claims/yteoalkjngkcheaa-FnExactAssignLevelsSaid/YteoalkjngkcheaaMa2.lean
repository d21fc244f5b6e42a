/- Names, classes and levels that are given, as data. -/
import Derived.Test.YteoalkjngkcheaaRows
import Derived.Test.YteoalkjngkcheaaMa1
import Derived.Test.YteoalkjngkcheaaVecCnt
import Derived.Test.YteoalkjngkcheaaVecStr
import Derived.WalkKit
import Derived.OwnWalk
import Derived.Lib.Hide
import Derived.Deep.DeepCutAuto
import Derived.Maps.AppendAt
import Derived.Deep.MidRow
namespace Go.Proofs.Yteoalkjngkcheaa
open Go.RowKit
set_option maxRecDepth 100000
set_option linter.unusedVariables false

theorem FirstIs.miss {l : List It} {x : It} {r : Int} (h : FirstIs l x r) (hr : r < 0) : ∀ i, i < l.length → l.getD i noI ≠ x := by
  rcases h with ⟨_, h⟩ | ⟨j, e, _⟩
  · exact h
  · omega
theorem FirstIs.hit {l : List It} {x : It} {r : Int} (h : FirstIs l x r) (hr : ¬ r < 0) : ∃ j, j < l.length ∧ l.getD j noI = x := by
  rcases h with ⟨e, _⟩ | ⟨j, _, h1, h2, _⟩
  · omega
  · exact ⟨j, h1, h2⟩
/-- "invalid names", "invalid class", "invalid levels" -/
def namB : ByteArray := ⟨#[105, 110, 118, 97, 108, 105, 100, 32, 110, 97, 109, 101, 115]⟩
def clsB : ByteArray := ⟨#[105, 110, 118, 97, 108, 105, 100, 32, 99, 108, 97, 115, 115]⟩
def levB : ByteArray := ⟨#[105, 110, 118, 97, 108, 105, 100, 32, 108, 101, 118, 101, 108, 115]⟩
theorem own_zeroA (d lo hi : Nat) (w : World) : Own (d + 1) noV (.agg #[.int .i64 0, .slice none 0 0, .slice none 0 0, .slice none 0 0, .slice none 0 0, .slice none 0 0, .int .i64 0, .int .i64 0]) lo hi w := by
  refine ⟨[], ?_, List.nodup_nil, (fun _ h => by cases h)⟩
  show OwnVec w (d + 1) (.mk 0 [] [] [] [] [] 0 0) _ []
  unfold OwnVec
  exact ⟨none, 0, none, 0, none, 0, none, 0, none, 0, [], [], [], [], [], rfl, rfl, ⟨Nat.le_refl _, Nat.le_refl _, Nat.le_refl _, Nat.le_refl _, Nat.le_refl _⟩, .inl ⟨rfl, rfl⟩, .inl ⟨rfl, rfl⟩, .inl ⟨rfl, rfl⟩, .inl ⟨rfl, rfl⟩, .inl ⟨rfl, rfl⟩⟩
theorem zeroSA (d : Nat) (s : ByteArray) (w w' : World) (hb : Below w.heap.size w w') : ResVS (d + 1) noV s w (.returned (.tuple #[.agg #[.int .i64 0, .slice none 0 0, .slice none 0 0, .slice none 0 0, .slice none 0 0, .slice none 0 0, .int .i64 0, .int .i64 0], .string s])) w' := ⟨_, rfl, own_zeroA _ _ _ _, hb⟩
/-- The strings of elements. -/
def txL (l : List It) : List ByteArray := l.map It.t
theorem txL_len (l : List It) : (txL l).length = l.length := by unfold txL; simp
theorem txL_get (l : List It) (i : Nat) : (txL l).getD i ⟨#[]⟩ = (l.getD i noI).t := by
  unfold txL
  rw [List.getD_eq_getElem?_getD, List.getD_eq_getElem?_getD, List.getElem?_map]
  cases l[i]? <;> rfl
theorem txL_mem {l : List It} {s : ByteArray} (h : s ∈ txL l) : ∃ x ∈ l, x.t = s := List.mem_map.1 h
theorem txL_snoc (l : List It) (x : It) : txL (l ++ [x]) = txL l ++ [x.t] := by unfold txL; rw [List.map_append]; rfl
theorem txL_take {l : List It} {k : Nat} (hk : k < l.length) : txL (l.take (k + 1)) = txL (l.take k) ++ [(l.getD k noI).t] := by
  rw [List.take_add_one, List.getElem?_eq_getElem hk, List.getD_eq_getElem?_getD, List.getElem?_eq_getElem hk]
  exact txL_snoc _ _
def setC (v : Vec) (c : List ByteArray) : Vec := match v with | .mk k i p n _ l co e => .mk k i p n c l co e
def setL (v : Vec) (l : List ByteArray) : Vec := match v with | .mk k i p n c _ co e => .mk k i p n c l co e
def setN (v : Vec) (n : List ByteArray) : Vec := match v with | .mk k i p _ c l co e => .mk k i p n c l co e
theorem labels_known {l : List It} {n : Nat} (h : LabelsOk (txtS (txL l)) (txL l).length n) : ∀ j, j < l.length → l.getD j noI ≠ noI := fun j hj e => by
  refine (h.2 j (by rw [txL_len]; exact hj)).1 ?_
  show ((txL l).getD j ⟨#[]⟩).size = 0
  rw [txL_get, e]; rfl
theorem cls_known {v w : Vec} (h : ValidV (setC v (txL (itemsV w)))) : ∀ j, j < (itemsV w).length → (itemsV w).getD j noI ≠ noI := by
  obtain ⟨kk, items, parts, names, cls, levels, code, env⟩ := v
  exact labels_known (FlatOk.h_cls (h.1.flat))
theorem lev_known {v w : Vec} (h : ValidV (setL v (txL (itemsV w)))) : ∀ j, j < (itemsV w).length → (itemsV w).getD j noI ≠ noI := by
  obtain ⟨kk, items, parts, names, cls, levels, code, env⟩ := v
  exact labels_known (FlatOk.h_levels (h.1.flat))
/-- A text vector or NULL. -/
def TxK (w : Vec) : Prop := kindV w = 3 ∨ kindV w = 0
/-- A vector with labels that were given: x is the vector as it would be. -/
noncomputable def lbV (x w v : Vec) : Vec := bif bB (ValidV v ∧ ValidV w) then (bif bB (TxK w ∧ ValidV x) then x else noV) else noV
noncomputable def lbS (p : ByteArray) (x w v : Vec) : ByteArray := bif bB (ValidV v ∧ ValidV w) then (bif bB (TxK w ∧ ValidV x) then ⟨#[]⟩ else p) else badB
theorem lb_bad {p : ByteArray} {x w v : Vec} (h : ¬ (ValidV v ∧ ValidV w)) : lbV x w v = noV ∧ lbS p x w v = badB := by unfold lbV lbS; rw [bB_no h]; exact ⟨rfl, rfl⟩
theorem lb_no {p : ByteArray} {x w v : Vec} (h : ValidV v ∧ ValidV w) (h1 : ¬ (TxK w ∧ ValidV x)) : lbV x w v = noV ∧ lbS p x w v = p := by unfold lbV lbS; rw [bB_yes h, bB_no h1]; exact ⟨rfl, rfl⟩
theorem lb_yes {p : ByteArray} {x w v : Vec} (h : ValidV v ∧ ValidV w) (h1 : TxK w ∧ ValidV x) : lbV x w v = x ∧ lbS p x w v = ⟨#[]⟩ := by unfold lbV lbS; rw [bB_yes h, bB_yes h1]; exact ⟨rfl, rfl⟩
/-- Texts, as many as n, empty ones behind. -/
def padT (l : List ByteArray) (n : Nat) : List ByteArray := (List.range n).map (fun i => l.getD i ⟨#[]⟩)
/-- Names that are given, as data. -/
def NmGo (v w : Vec) : Prop := TxK w ∧ (itemsV w).length ≤ lengthV v
def NoEl (v : Vec) : Prop := kindV v = 0 ∨ kindV v = 5
noncomputable def anN (v w : Vec) : List ByteArray := clnN (padT (txL (itemsV w)) (lengthV v))
noncomputable def anV (v w : Vec) : Vec := bif bB ((ValidV v ∧ ValidV w) ∧ ¬ NoEl v ∧ NmGo v w) then setN v (anN v w) else noV
noncomputable def anS (v w : Vec) : ByteArray := bif bB (ValidV v ∧ ValidV w) then (bif bB (NoEl v) then nelB else (bif bB (NmGo v w) then ⟨#[]⟩ else namB)) else badB
theorem Own.setN {k : Int} {items : List It} {parts : List Vec} {names cls levels : List ByteArray} {code env : Int} {d lo hi : Nat} {w : World} {c0 c1 c2 c3 c4 c5 c6 c7 : Value} (h : Own (d + 1) (.mk k items parts names cls levels code env) (.agg #[c0, c1, c2, c3, c4, c5, c6, c7]) lo hi w)
    {X : List ByteArray} {na : Option Addr} {nc lo2 hi2 : Nat} {Fx : List Nat} (hT : OwnTxs w na X Fx) (hn : Fx.Nodup) (hr : ∀ g ∈ Fx, lo2 ≤ g ∧ g < hi2) (hc : X.length ≤ nc) (h1 : hi ≤ lo2) (h2 : lo ≤ lo2) (h3 : hi ≤ hi2) : Own (d + 1) (.mk k items parts X cls levels code env) (.agg #[c0, c1, c2, .slice na X.length nc, c4, c5, c6, c7]) lo hi2 w := by
  obtain ⟨F, ho, hnd, hrg⟩ := h.out
  unfold OwnVec at ho
  obtain ⟨ai, ci, ap, cp, an, cn, ac, cc, al, cl, Fi, Fp, F0, Fc, Fl, e, rfl, hC, i1, i2, i3, i4, i5⟩ := ho
  simp only [Value.agg.injEq, Array.mk.injEq, List.cons.injEq, and_true] at e
  obtain ⟨rfl, rfl, rfl, rfl, rfl, rfl, rfl, rfl⟩ := e
  refine ⟨Fi ++ (Fp ++ (Fx ++ (Fc ++ Fl))), ?_, ?_, ?_⟩
  · unfold OwnVec
    exact ⟨ai, ci, ap, cp, na, nc, ac, cc, al, cl, Fi, Fp, Fx, Fc, Fl, rfl, rfl, ⟨hC.1, hC.2.1, hc, hC.2.2.2.1, hC.2.2.2.2⟩, i1, hT, i3, i4, i5⟩
  · have D : ∀ g, (g ∈ Fi ∨ g ∈ Fp ∨ g ∈ Fc ∨ g ∈ Fl) → g ∉ Fx := fun g hg hm => by
      have h4 := hr g hm
      have h5 := hrg g (by simp only [List.mem_append]; grind)
      omega
    simp only [List.nodup_append, List.mem_append] at hnd ⊢
    grind
  · intro g hg
    simp only [List.mem_append] at hg
    by_cases hm : g ∈ Fx
    · have := hr g hm; omega
    · have := hrg g (by simp only [List.mem_append]; grind); omega
theorem Own.setC {k : Int} {items : List It} {parts : List Vec} {names cls levels : List ByteArray} {code env : Int} {d lo hi : Nat} {w : World} {c0 c1 c2 c3 c4 c5 c6 c7 : Value} (h : Own (d + 1) (.mk k items parts names cls levels code env) (.agg #[c0, c1, c2, c3, c4, c5, c6, c7]) lo hi w)
    {X : List ByteArray} {na : Option Addr} {nc lo2 hi2 : Nat} {Fx : List Nat} (hT : OwnTxs w na X Fx) (hn : Fx.Nodup) (hr : ∀ g ∈ Fx, lo2 ≤ g ∧ g < hi2) (hc : X.length ≤ nc) (h1 : hi ≤ lo2) (h2 : lo ≤ lo2) (h3 : hi ≤ hi2) : Own (d + 1) (.mk k items parts names X levels code env) (.agg #[c0, c1, c2, c3, .slice na X.length nc, c5, c6, c7]) lo hi2 w := by
  obtain ⟨F, ho, hnd, hrg⟩ := h.out
  unfold OwnVec at ho
  obtain ⟨ai, ci, ap, cp, an, cn, ac, cc, al, cl, Fi, Fp, Fn, F0, Fl, e, rfl, hC, i1, i2, i3, i4, i5⟩ := ho
  simp only [Value.agg.injEq, Array.mk.injEq, List.cons.injEq, and_true] at e
  obtain ⟨rfl, rfl, rfl, rfl, rfl, rfl, rfl, rfl⟩ := e
  refine ⟨Fi ++ (Fp ++ (Fn ++ (Fx ++ Fl))), ?_, ?_, ?_⟩
  · unfold OwnVec
    exact ⟨ai, ci, ap, cp, an, cn, na, nc, al, cl, Fi, Fp, Fn, Fx, Fl, rfl, rfl, ⟨hC.1, hC.2.1, hC.2.2.1, hc, hC.2.2.2.2⟩, i1, i2, hT, i4, i5⟩
  · have D : ∀ g, (g ∈ Fi ∨ g ∈ Fp ∨ g ∈ Fn ∨ g ∈ Fl) → g ∉ Fx := fun g hg hm => by
      have h4 := hr g hm
      have h5 := hrg g (by simp only [List.mem_append]; grind)
      omega
    simp only [List.nodup_append, List.mem_append] at hnd ⊢
    grind
  · intro g hg
    simp only [List.mem_append] at hg
    by_cases hm : g ∈ Fx
    · have := hr g hm; omega
    · have := hrg g (by simp only [List.mem_append]; grind); omega
theorem Own.setL {k : Int} {items : List It} {parts : List Vec} {names cls levels : List ByteArray} {code env : Int} {d lo hi : Nat} {w : World} {c0 c1 c2 c3 c4 c5 c6 c7 : Value} (h : Own (d + 1) (.mk k items parts names cls levels code env) (.agg #[c0, c1, c2, c3, c4, c5, c6, c7]) lo hi w)
    {X : List ByteArray} {na : Option Addr} {nc lo2 hi2 : Nat} {Fx : List Nat} (hT : OwnTxs w na X Fx) (hn : Fx.Nodup) (hr : ∀ g ∈ Fx, lo2 ≤ g ∧ g < hi2) (hc : X.length ≤ nc) (h1 : hi ≤ lo2) (h2 : lo ≤ lo2) (h3 : hi ≤ hi2) : Own (d + 1) (.mk k items parts names cls X code env) (.agg #[c0, c1, c2, c3, c4, .slice na X.length nc, c6, c7]) lo hi2 w := by
  obtain ⟨F, ho, hnd, hrg⟩ := h.out
  unfold OwnVec at ho
  obtain ⟨ai, ci, ap, cp, an, cn, ac, cc, al, cl, Fi, Fp, Fn, Fc, F0, e, rfl, hC, i1, i2, i3, i4, i5⟩ := ho
  simp only [Value.agg.injEq, Array.mk.injEq, List.cons.injEq, and_true] at e
  obtain ⟨rfl, rfl, rfl, rfl, rfl, rfl, rfl, rfl⟩ := e
  refine ⟨Fi ++ (Fp ++ (Fn ++ (Fc ++ Fx))), ?_, ?_, ?_⟩
  · unfold OwnVec
    exact ⟨ai, ci, ap, cp, an, cn, ac, cc, na, nc, Fi, Fp, Fn, Fc, Fx, rfl, rfl, ⟨hC.1, hC.2.1, hC.2.2.1, hC.2.2.2.1, hc⟩, i1, i2, i3, hT, i5⟩
  · have D : ∀ g, (g ∈ Fi ∨ g ∈ Fp ∨ g ∈ Fn ∨ g ∈ Fc) → g ∉ Fx := fun g hg hm => by
      have h4 := hr g hm
      have h5 := hrg g (by simp only [List.mem_append]; grind)
      omega
    simp only [List.nodup_append, List.mem_append] at hnd ⊢
    grind
  · intro g hg
    simp only [List.mem_append] at hg
    by_cases hm : g ∈ Fx
    · have := hr g hm; omega
    · have := hrg g (by simp only [List.mem_append]; grind); omega
end Go.Proofs.Yteoalkjngkcheaa

/- LogicOf as data. -/
namespace Go.Proofs.Yteoalkjngkcheaa
open Go.RowKit
set_option maxRecDepth 100000
set_option linter.unusedVariables false

def andB : ByteArray := ⟨#[38]⟩
def orB : ByteArray := ⟨#[124]⟩
/-- "unknown operator" -/
def unkB : ByteArray := ⟨#[117, 110, 107, 110, 111, 119, 110, 32, 111, 112, 101, 114, 97, 116, 111, 114]⟩
/-- "lengths do not match" -/
def lenB : ByteArray := ⟨#[108, 101, 110, 103, 116, 104, 115, 32, 100, 111, 32, 110, 111, 116, 32, 109, 97, 116, 99, 104]⟩
noncomputable def connL (op : ByteArray) (x y : Int) : Int := match bB (op = andB) with | true => aL x y | false => oL x y
def itL (v : Vec) : Nat := (itemsV v).length
def lgcN (a b : Vec) : Int := sizeL (itL a) (itL b)
noncomputable def lgcF (op : ByteArray) (a b : Vec) (i : Nat) : Int := connL op (truthI ((itemsV a).getD (i % itL a) noI)) (truthI ((itemsV b).getD (i % itL b) noI))
noncomputable def lgcS (op : ByteArray) (a b : Vec) : ByteArray := match bB (ValidV a ∧ ValidV b) with
  | false => badB
  | true => match bB (op = andB ∨ op = orB) with
    | false => unkB
    | true => match bB (Counts a ∧ Counts b) with
      | false => nonLogB
      | true => match bB (0 ≤ lgcN a b) with | false => lenB | true => ⟨#[]⟩
noncomputable def lgcV (op : ByteArray) (a b : Vec) : Vec := match bB (ValidV a ∧ ValidV b) with
  | false => noV
  | true => match bB (op = andB ∨ op = orB) with
    | false => noV
    | true => match bB (Counts a ∧ Counts b) with
      | false => noV
      | true => match bB (0 ≤ lgcN a b) with | false => noV | true => mkN 1 (itF (fun i => logI (lgcF op a b i)) (lgcN a b).toNat) (namesL (itL a) (itL b) (lgcN a b).toNat (namesV a) (namesV b))
noncomputable def cntL (v : Vec) : Nat := match bB (Counts v) with | true => itL v | false => 0
end Go.Proofs.Yteoalkjngkcheaa

/- Whether operands suit an operator, in the program. -/
namespace Go.Proofs.Yteoalkjngkcheaa
open Go.RowKit
set_option maxRecDepth 100000
set_option linter.unusedVariables false

def matchL (m n : Nat) : Prop := 0 ≤ sizeL m n
theorem implAre (d0 d1 : Nat) (a b : Vec) (k0 : Int) (ai0 ap0 an0 ac0 al0 : Option Addr) (n0 ci0 np0 cp0 nn0 cn0 nc0 cc0 nl0 cl0 : Nat) (code0 env0 : Int) (k1 : Int) (ai1 ap1 an1 ac1 al1 : Option Addr) (n1 ci1 np1 cp1 nn1 cn1 nc1 cc1 nl1 cl1 : Nat) (code1 env1 : Int) (g lo hi : Nat) (w : World) (h0 : VecAt lo hi w d0 a (.agg #[.int .i64 k0, .slice ai0 n0 ci0, .slice ap0 np0 cp0, .slice an0 nn0 cn0, .slice ac0 nc0 cc0, .slice al0 nl0 cl0, .int .i64 code0, .int .i64 env0])) (h1 : VecAt lo hi w d1 b (.agg #[.int .i64 k1, .slice ai1 n1 ci1, .slice ap1 np1 cp1, .slice an1 nn1 cn1, .slice ac1 nc1 cc1, .slice al1 nl1 cl1, .int .i64 code1, .int .i64 env1])) (hhi : hi ≤ w.heap.size) (hsm0 : Small d0 a) (hsm1 : Small d1 b)
    (hg : w.heap[g]? = some (.cells #[.int .i64 k0, .slice ai0 n0 ci0, .slice ap0 np0 cp0, .slice an0 nn0 cn0, .slice ac0 nc0 cc0, .slice al0 nl0 cl0, .int .i64 code0, .int .i64 env0, .int .i64 k1, .slice ai1 n1 ci1, .slice ap1 np1 cp1, .slice an1 nn1 cn1, .slice ac1 nc1 cc1, .slice al1 nl1 cl1, .int .i64 code1, .int .i64 env1] 31 (0, 0))) :
    Calls Try.prog 28 #[.slice (some ⟨g, 0, none⟩) 2 2] w fun e w' => e = .returned (.bool (bB (ValidV a ∧ ValidV b))) ∧ Below w.heap.size w w' := by
  have CA := Lib.hid (fun (w1 : World) (hb : Below w.heap.size w w1) => implIsVector d0 a (.agg #[.int .i64 k0, .slice ai0 n0 ci0, .slice ap0 np0 cp0, .slice an0 nn0 cn0, .slice ac0 nc0 cc0, .slice al0 nl0 cl0, .int .i64 code0, .int .i64 env0]) lo hi w1 (h0.below hb hhi) (Nat.le_trans hhi hb.size) hsm0)
  have CB := Lib.hid (fun (w1 : World) (hb : Below w.heap.size w w1) => implIsVector d1 b (.agg #[.int .i64 k1, .slice ai1 n1 ci1, .slice ap1 np1 cp1, .slice an1 nn1 cn1, .slice ac1 nc1 cc1, .slice al1 nl1 cl1, .int .i64 code1, .int .i64 env1]) lo hi w1 (h1.below hb hhi) (Nat.le_trans hhi hb.size) hsm1)
  have KG := Lib.hid hg
  have hgw := (Array.getElem?_eq_some_iff.1 hg).1
  clear h0 h1 hsm0 hsm1 hg
  go_enter Try.func28, Try.ntmps28
  go_wp2
  go_loopw [7] (fun i wr => ∃ k : Nat, k ≤ 2 ∧ i = .int .i64 k ∧ (0 < k → ValidV a) ∧ (1 < k → ValidV b) ∧ Below w.heap.size w wr) (fun i _ => 2 - (intOf i).toNat)
  case atStart => exact ⟨0, by omega, rfl, fun h => absurd h (by omega), fun h => absurd h (by omega), Below.refl _ _⟩
  case round =>
    obtain ⟨k, hk, rfl, ha, hb, hbw⟩ := hrel
    have BW := Lib.hid hbw
    have KGW := Lib.hid (blk_below hbw KG.out)
    have PA := Lib.hid ha
    have PB := Lib.hid hb
    clear hbw ha hb
    have hgr := (Array.getElem?_eq_some_iff.1 KGW.out).1
    rcases (show k = 0 ∨ k = 1 ∨ k = 2 by omega) with rfl | rfl | rfl
    · have g0 : wr.cell? ⟨g, 0, none⟩ = some (.int .i64 k0) := cellOf KGW.out rfl
      have g1 : wr.cell? ⟨g, 1, none⟩ = some (.slice ai0 n0 ci0) := cellOf KGW.out rfl
      have g2 : wr.cell? ⟨g, 2, none⟩ = some (.slice ap0 np0 cp0) := cellOf KGW.out rfl
      have g3 : wr.cell? ⟨g, 3, none⟩ = some (.slice an0 nn0 cn0) := cellOf KGW.out rfl
      have g4 : wr.cell? ⟨g, 4, none⟩ = some (.slice ac0 nc0 cc0) := cellOf KGW.out rfl
      have g5 : wr.cell? ⟨g, 5, none⟩ = some (.slice al0 nl0 cl0) := cellOf KGW.out rfl
      have g6 : wr.cell? ⟨g, 6, none⟩ = some (.int .i64 code0) := cellOf KGW.out rfl
      have g7 : wr.cell? ⟨g, 7, none⟩ = some (.int .i64 env0) := cellOf KGW.out rfl
      go_wp2_with fail
      with_reducible refine (CA.out _ (BW.out.alloc BW.out.size _)).mono ?_
      rintro e w' ⟨rfl, b'⟩
      have BN := Lib.hid ((BW.out.alloc BW.out.size (.cells #[.int .i64 k0, .slice ai0 n0 ci0, .slice ap0 np0 cp0, .slice an0 nn0 cn0, .slice ac0 nc0 cc0, .slice al0 nl0 cl0, .int .i64 code0, .int .i64 env0] 31)).trans (b'.mono (by have := BW.out.size; simp; omega)))
      clear b'
      by_cases q : ValidV a
      · rw [bB_yes q]
        have Q := Lib.hid q
        clear q
        go_wp2
        go_roundw
        case rel => exact ⟨1, by omega, by go_num, fun _ => Q.out, fun h => absurd h (by omega), BN.out⟩
        case measure => simp [intOf]
      · rw [bB_no q]
        have X := Lib.hid (fun h : ValidV a ∧ ValidV b => q h.1)
        clear q
        go_wp2
        go_ret
        exact ⟨ret_no X.out, BN.out⟩
    · have g0 : wr.cell? ⟨g, 8, none⟩ = some (.int .i64 k1) := cellOf KGW.out rfl
      have g1 : wr.cell? ⟨g, 9, none⟩ = some (.slice ai1 n1 ci1) := cellOf KGW.out rfl
      have g2 : wr.cell? ⟨g, 10, none⟩ = some (.slice ap1 np1 cp1) := cellOf KGW.out rfl
      have g3 : wr.cell? ⟨g, 11, none⟩ = some (.slice an1 nn1 cn1) := cellOf KGW.out rfl
      have g4 : wr.cell? ⟨g, 12, none⟩ = some (.slice ac1 nc1 cc1) := cellOf KGW.out rfl
      have g5 : wr.cell? ⟨g, 13, none⟩ = some (.slice al1 nl1 cl1) := cellOf KGW.out rfl
      have g6 : wr.cell? ⟨g, 14, none⟩ = some (.int .i64 code1) := cellOf KGW.out rfl
      have g7 : wr.cell? ⟨g, 15, none⟩ = some (.int .i64 env1) := cellOf KGW.out rfl
      go_wp2_with fail
      with_reducible refine (CB.out _ (BW.out.alloc BW.out.size _)).mono ?_
      rintro e w' ⟨rfl, b'⟩
      have BN := Lib.hid ((BW.out.alloc BW.out.size (.cells #[.int .i64 k1, .slice ai1 n1 ci1, .slice ap1 np1 cp1, .slice an1 nn1 cn1, .slice ac1 nc1 cc1, .slice al1 nl1 cl1, .int .i64 code1, .int .i64 env1] 31)).trans (b'.mono (by have := BW.out.size; simp; omega)))
      clear b'
      have QA := Lib.hid (PA.out (by omega))
      by_cases q : ValidV b
      · rw [bB_yes q]
        have Q := Lib.hid q
        clear q
        go_wp2
        go_roundw
        case rel => exact ⟨2, by omega, by go_num, fun _ => QA.out, fun _ => Q.out, BN.out⟩
        case measure => simp [intOf]
      · rw [bB_no q]
        have X := Lib.hid (fun h : ValidV a ∧ ValidV b => q h.2)
        clear q
        go_wp2
        go_ret
        exact ⟨ret_no X.out, BN.out⟩
    · have X := Lib.hid (show ValidV a ∧ ValidV b from ⟨PA.out (by omega), PB.out (by omega)⟩)
      go_wp2
      go_ret
      exact ⟨ret_yes X.out, BW.out⟩
/-- What problemOfOperands finds where the operands must count as numbers. -/
noncomputable def prbB (known : Bool) (a b : Vec) (uns : ByteArray) : ByteArray := match bB (ValidV a ∧ ValidV b) with
  | false => badB
  | true => match known with
    | false => unkB
    | true => match bB (Counts a ∧ Counts b) with
      | false => uns
      | true => match bB (matchL (itL a) (itL b)) with | false => lenB | true => ⟨#[]⟩
end Go.Proofs.Yteoalkjngkcheaa

/- Laws on two vectors: what a region that calls on both keeps. -/
namespace Go.Proofs.Yteoalkjngkcheaa
set_option maxRecDepth 100000
open Go.RowKit
set_option linter.unusedVariables false

/-- A vector that may be read. -/
structure VatH (d : Nat) (v : Vec) (y : Value) (w : World) : Prop where
  out : VecAt 0 w.heap.size w d v y
theorem VatH.keep {d : Nat} {v : Vec} {y : Value} {w w1 : World} (h : VatH d v y w) (hb : Below w.heap.size w w1) : VatH d v y w1 := ⟨VecAt.wide (Nat.le_refl _) hb.size _ _ _ (h.out.below hb (Nat.le_refl _))⟩
theorem ResV.vatH {d : Nat} {v : Vec} {y : Value} {lo : Nat} {w : World} (h : Own d v y lo w.heap.size w) : VatH d v y w := ⟨h.vat (Nat.le_refl _)⟩
/-- A vector of one's own in a range, kept. -/
structure OwnH (d : Nat) (V : Vec) (y : Value) (lo hi : Nat) (w : World) : Prop where
  own : Own d V y lo hi w
  hh : hi ≤ w.heap.size
theorem OwnH.keep {d : Nat} {V : Vec} {y : Value} {lo hi : Nat} {w w1 : World} (h : OwnH d V y lo hi w) (hb : Below w.heap.size w w1) : OwnH d V y lo hi w1 := ⟨h.own.below hb h.hh, Nat.le_trans h.hh hb.size⟩
theorem Own.rowO {d : Nat} {V : Vec} {y : Value} {lo hi g : Nat} {c : Array Value} {w : World} (h : Own d V y lo hi w) (hg : g < lo ∨ hi ≤ g) : Own d V y lo hi (w.setRow g c) := by
  obtain ⟨F, q1, q2, q3⟩ := h.out
  exact ⟨F, q1.kept _ _ _ _ (fun b hb => row_old rfl (by have := q3 b hb; omega)), q2, q3⟩
/-- A vector that was made and put into a variable of its own. -/
structure MadeU (V : Vec) (wk wx : World) (g : Nat) (C : Array Value) : Prop where
  blk : wx.heap[g]? = some (.cells C 31 (0, 0))
  own : Own 1 V (.agg C) wk.heap.size wx.heap.size wx
  below : Below wk.heap.size wk wx
  lo : wk.heap.size ≤ g
theorem MadeU.cells {V : Vec} {wk wx : World} {g : Nat} {C : Array Value} (h : MadeU V wk wx g C) : ∃ (k : Int) (a1 : Option Addr) (n1 m1 : Nat) (a2 : Option Addr) (n2 m2 : Nat) (a3 : Option Addr) (n3 m3 : Nat) (a4 : Option Addr) (n4 m4 : Nat) (a5 : Option Addr) (n5 m5 : Nat) (code env : Int), C = #[.int .i64 k, .slice a1 n1 m1, .slice a2 n2 m2, .slice a3 n3 m3, .slice a4 n4 m4, .slice a5 n5 m5, .int .i64 code, .int .i64 env] := by
  obtain ⟨k, a1, n1, m1, a2, n2, m2, a3, n3, m3, a4, n4, m4, a5, n5, m5, c, e, h'⟩ := h.own.agg
  simp only [Value.agg.injEq] at h'
  exact ⟨k, a1, n1, m1, a2, n2, m2, a3, n3, m3, a4, n4, m4, a5, n5, m5, c, e, h'⟩
section
variable {P : Program} {ops : Array Oper} {Q : Exit → Act → World → Prop} {S : World → Prop}
variable {r : List (Nat × Bool)} {a : Act} {e : List (Nat × Value)} {w : World} {i d : Nat} {g : Option (Nat × Bool)} {v : Value}
/-- A part of a call's several results. -/
theorem run_extract {x : Operand} {k : Nat} {vs : Array Value} (ho : opAt ops i = some (some d, .extract x k, g)) (hd : Nat.blt d a.tmps.size = true) (hw : wantE ops a e g = some true)
    (hx : lookO a e x = .tuple vs) (hv : vs[k]? = some v) (h : RunE P ops Q S r a ((d, v) :: e) w) : RunE P ops Q S ((i, true) :: r) a e w :=
  run_yield ho hd hw (fun o w' h1 _ => by
    unfold execOp; rw [h1]; simp only [hx]
    refine run_v ?_
    unfold Instr.extract
    simp only [hv]
    rfl) h
end
/-- A mark that goes on from k. -/
theorem markOwnK (d : Nat) (V : Vec) (y : Value) (k : Nat) (lo hi : Nat) (w : World) (h : Own d V y lo hi w) (hh : hi ≤ w.heap.size) (hs : Small d V) (hk : 1 ≤ k) (hc : k + cntM d V ≤ 8000000) :
    Calls Try.prog 11 #[y, .int .i64 k] w fun e w' => e = .returned (.int .i64 ((k + cntM d V : Nat) : Int)) ∧ Within lo hi w w' := by
  obtain ⟨F, h1, h2, h3⟩ := h.out
  refine (markVec d V y k F w h1 h2 (fun b hb => by have := h3 b hb; omega) hs hk hc).mono ?_
  rintro e w' ⟨rfl, ho, t⟩
  exact ⟨rfl, t.within h3⟩
end Go.Proofs.Yteoalkjngkcheaa

/- The reference's last look at a result: l4Fit. -/
namespace Go.Proofs.Yteoalkjngkcheaa
set_option maxRecDepth 100000
open Go.RowKit
set_option linter.unusedVariables false
end Go.Proofs.Yteoalkjngkcheaa

/- The reference's l4Clean: names that are all empty are left out. -/
namespace Go.Proofs.Yteoalkjngkcheaa
set_option maxRecDepth 100000
open Go.RowKit
set_option linter.unusedVariables false
end Go.Proofs.Yteoalkjngkcheaa

/- Strings of elements, labels that are given: the program. -/
namespace Go.Proofs.Yteoalkjngkcheaa
open Go.RowKit
set_option maxRecDepth 100000
set_option linter.unusedVariables false

theorem implTextsOf (d : Nat) (v : Vec) (val : Value) (lo hi : Nat) (w : World) (hv : VecAt lo hi w d v val) (hhi : hi ≤ w.heap.size) (hsm : Small d v) :
    Calls Try.prog 34 #[val] w fun e w' => ∃ v', e = .returned v' ∧ TxZ w w' (txL (itemsV v)) v' := by
  obtain ⟨kk, items, parts, names, cls, levels, code, env⟩ := v
  obtain ⟨d', ai, ci, ap, cp, an, cn, ac, cc, al, cl, ed, rfl, hI, hN, hC, hL, hP⟩ := vecAt_open hv
  subst ed
  have hn : items.length ≤ 1048576 := hsm.1
  have AI := Lib.hid (fun (k : Nat) (W : World) (hk : k < items.length) (hb : Below w.heap.size w W) => (hI.below hb hhi).at_ hk)
  have TS := Lib.hid (fun k (hk : k < items.length) => txL_take hk)
  have ST := Lib.hid (show TxZ w w (txL (items.take 0)) (.slice none 0 0) from TxZ.nil w w (Below.refl _ _))
  have EN := Lib.hid (show txL (items.take items.length) = txL items by rw [List.take_length])
  have LE := Lib.hid (fun k => (by rw [txL_len, List.length_take]; omega : (txL (items.take k)).length ≤ items.length))
  show Calls _ _ _ _ (fun e w' => ∃ v', e = .returned v' ∧ TxZ w w' (txL items) v')
  obtain ⟨n, hn'⟩ : ∃ n, items.length = n := ⟨_, rfl⟩
  rw [hn'] at AI TS EN LE hn ⊢
  clear hI hN hC hL hP hsm hn' hv
  go_enter Try.func34, Try.ntmps34
  go_upto_region 2 with (fail)
  obtain ⟨w1, hw1⟩ : ∃ W, w.alloc (.cells #[.int .i64 kk, .slice ai n ci, .slice ap parts.length cp, .slice an names.length cn, .slice ac cls.length cc, .slice al levels.length cl, .int .i64 code, .int .i64 env] 31) = W := ⟨_, rfl⟩
  have B1 := Lib.hid (show Below w.heap.size w w1 from hw1 ▸ (below1 w _))
  have KA := Lib.hid (show w1.heap[w.heap.size]? = some (.cells #[.int .i64 kk, .slice ai n ci, .slice ap parts.length cp, .slice an names.length cn, .slice ac cls.length cc, .slice al levels.length cl, .int .i64 code, .int .i64 env] 31 (0, 0)) from hw1 ▸ blk_new w _ rfl)
  have Z1 := Lib.hid (show w1.heap.size = w.heap.size + 1 from hw1 ▸ (by simp))
  rw [hw1]
  clear hw1
  obtain ⟨k0, k1, k2, k3, k4, k5, k6, k7⟩ := vec8 KA.out
  go_wp2
  clear k0 k1 k2 k3 k4 k5 k6 k7
  have ST := Lib.hid (show TxZ w w1 (txL (items.take 0)) (.slice none 0 0) from ST.out.keep B1.out)
  go_loopw [3, 9] (fun v i wr => ∃ k : Nat, k ≤ n ∧ i = .int .i64 k ∧ TxZ w wr (txL (items.take k)) v) (fun _ i _ => n - (intOf i).toNat)
  case atStart => exact ⟨0, Nat.zero_le _, rfl, ST.out⟩
  case round =>
    obtain ⟨k, hk, rfl, hir⟩ := hrel
    have IR := Lib.hid hir
    clear hir
    by_cases hlt : k < n
    · obtain ⟨ba, off, rfl, hbB, c0, c1, c2'⟩ := AI.out k wr hlt IR.out.below
      have c2 : wr.cell? ⟨ba, off + k * 3 + 2, none⟩ = some (.string (items.getD k noI).t) := c2'
      have LN := Lib.hid (show (txL (items.take k)).length ≤ 1048576 by have := LE.out k; omega)
      have NX := Lib.hid (TS.out k hlt)
      obtain ⟨x, hx⟩ : ∃ x, items.getD k noI = x := ⟨_, rfl⟩
      rw [hx] at c0 c1 c2 NX
      clear hx c2'
      obtain ⟨w2, hw2⟩ : ∃ W, wr.alloc (.cells #[.int .i64 x.n, .int .i64 x.d, .string x.t] 46) = W := ⟨_, rfl⟩
      have B2 := Lib.hid (show Below wr.heap.size wr w2 from hw2 ▸ below1 wr _)
      have KX := Lib.hid (show w2.heap[wr.heap.size]? = some (.cells #[.int .i64 x.n, .int .i64 x.d, .string x.t] 46 (0, 0)) from hw2 ▸ blk_new wr _ rfl)
      have EW := Lib.hid hw2
      clear hw2
      go_upto_region 5 with (fail)
      rw [EW.out]
      have IK := Lib.hid (IR.out.keep B2.out)
      have k2 := cellOf KX.out (i := 2) rfl
      go_wp2_with (at_builtin; go_loud (refine wpList_appTx rfl _ _ rfl x.t (txL (items.take k)) _ _ rfl rfl (IK.out.keep (below1 _ _)) (blk_new _ _ rfl) LN.out ?_))
      intro v' w3 hir
      have IN := Lib.hid (NX.out ▸ hir)
      clear hir
      go_wp2
      go_roundw
      case rel => exact ⟨k + 1, by omega, by go_num, IN.out⟩
      case measure => simp [intOf]; omega
    · obtain rfl : k = n := by omega
      go_wp2
      go_ret
      exact ⟨_, rfl, EN.out ▸ IR.out⟩
theorem implIsTx (d : Nat) (v : Vec) (val : Value) (lo hi : Nat) (w : World) (hv : VecAt lo hi w d v val) :
    Calls Try.prog 29 #[val] w fun e w' => e = .returned (.bool (bB (TxK v))) ∧ Below w.heap.size w w' := by
  obtain ⟨kk, items, parts, names, cls, levels, code, env⟩ := v
  obtain ⟨d', ai, ci, ap, cp, an, cn, ac, cc, al, cl, ed, rfl, hI, hN, hC, hL, hP⟩ := vecAt_open hv
  clear hv hI hN hC hL hP
  by_cases h3 : kk = 3
  · have XX := Lib.hid (bB_yes (show TxK (.mk kk items parts names cls levels code env) from .inl h3))
    subst h3
    go_enter Try.func29, Try.ntmps29
    go_wp2
    go_ret
    exact ⟨by rw [XX.out]; rfl, below1 _ _⟩
  · have h3b : (kk == 3) = false := beq_eq_false_iff_ne.2 h3
    by_cases h0 : kk = 0
    · have XX := Lib.hid (bB_yes (show TxK (.mk kk items parts names cls levels code env) from .inr h0))
      subst h0
      go_enter Try.func29, Try.ntmps29
      go_wp2
      go_ret
      exact ⟨by rw [XX.out]; rfl, below1 _ _⟩
    · have h0b : (kk == 0) = false := beq_eq_false_iff_ne.2 h0
      have XX := Lib.hid (bB_no (show ¬ TxK (.mk kk items parts names cls levels code env) from fun e => e.elim h3 h0))
      go_enter Try.func29, Try.ntmps29
      go_wp2
      go_ret
      exact ⟨by rw [XX.out]; rfl, below1 _ _⟩
set_option maxHeartbeats 4000000 in
theorem implWithLab (d d2 : Nat) (v u x : Vec) (val valu valx : Value) (p : ByteArray) (lo hi : Nat) (w : World) (hv : VecAt lo hi w (d + 1) v val) (hu : VecAt lo hi w d2 u valu) (hx : VecAt lo hi w (d + 1) x valx) (hhi : hi ≤ w.heap.size) (hsm : Small (d + 1) v) (hsu : Small d2 u) (hsx : Small (d + 1) x) :
    Calls Try.prog 45 #[val, valu, valx, .string p] w (ResVS (d + 1) (lbV x u v) (lbS p x u v) w) := by
  have CT := Lib.hid (fun (W : World) (hb : Below w.heap.size w W) => implIsTx d2 u valu lo hi W (hu.below hb hhi))
  have CI := Lib.hid (fun (W : World) (hb : Below w.heap.size w W) => implIsVector (d + 1) x valx lo hi W (hx.below hb hhi) (Nat.le_trans hhi hb.size) hsx)
  have CC := Lib.hid (fun (W : World) (hb : Below w.heap.size w W) => (icvAll (d + 1)).out x valx lo hi W (hx.below hb hhi) (Nat.le_trans hhi hb.size) hsx)
  have XB := Lib.hid (fun h => lb_bad (p := p) (x := x) (w := u) (v := v) h)
  have XN := Lib.hid (fun h h1 => lb_no (p := p) (x := x) (w := u) (v := v) h h1)
  have XY := Lib.hid (fun h h1 => lb_yes (p := p) (x := x) (w := u) (v := v) h h1)
  obtain ⟨vk, va1, vn1, vm1, va2, vn2, vm2, va3, vn3, vm3, va4, vn4, vm4, va5, vn5, vm5, vc, ve, rfl⟩ := hv.agg
  obtain ⟨uk, ua1, un1, um1, ua2, un2, um2, ua3, un3, um3, ua4, un4, um4, ua5, un5, um5, uc, ue, rfl⟩ := hu.agg
  obtain ⟨xk, xa1, xn1, xm1, xa2, xn2, xm2, xa3, xn3, xm3, xa4, xn4, xm4, xa5, xn5, xm5, xc, xe, rfl⟩ := hx.agg
  have CV := Lib.hid (fun (g : Nat) (W : World) (hb : Below w.heap.size w W) (hg : W.heap[g]? = some (.cells #[.int .i64 vk, .slice va1 vn1 vm1, .slice va2 vn2 vm2, .slice va3 vn3 vm3, .slice va4 vn4 vm4, .slice va5 vn5 vm5, .int .i64 vc, .int .i64 ve, .int .i64 uk, .slice ua1 un1 um1, .slice ua2 un2 um2, .slice ua3 un3 um3, .slice ua4 un4 um4, .slice ua5 un5 um5, .int .i64 uc, .int .i64 ue] 31 (0, 0))) => implAre _ _ _ _ vk va1 va2 va3 va4 va5 vn1 vm1 vn2 vm2 vn3 vm3 vn4 vm4 vn5 vm5 vc ve uk ua1 ua2 ua3 ua4 ua5 un1 um1 un2 um2 un3 um3 un4 um4 un5 um5 uc ue g lo hi W (hv.below hb hhi) (hu.below hb hhi) (Nat.le_trans hhi hb.size) hsm hsu hg)
  obtain ⟨EV, hEV⟩ : ∃ y, lbV x u v = y := ⟨_, rfl⟩
  obtain ⟨ES, hES⟩ : ∃ y, lbS p x u v = y := ⟨_, rfl⟩
  rw [hEV, hES] at XB XN XY ⊢
  clear hv hu hx hhi hsm hsu hsx hEV hES
  go_enter Try.func45, Try.ntmps45
  go_wp2_with fail
  obtain ⟨w1, hw1⟩ : ∃ W, ((((w.alloc (.cells #[.int .i64 vk, .slice va1 vn1 vm1, .slice va2 vn2 vm2, .slice va3 vn3 vm3, .slice va4 vn4 vm4, .slice va5 vn5 vm5, .int .i64 vc, .int .i64 ve] 31)).alloc (.cells #[.int .i64 uk, .slice ua1 un1 um1, .slice ua2 un2 um2, .slice ua3 un3 um3, .slice ua4 un4 um4, .slice ua5 un5 um5, .int .i64 uc, .int .i64 ue] 31)).alloc (.cells #[.int .i64 xk, .slice xa1 xn1 xm1, .slice xa2 xn2 xm2, .slice xa3 xn3 xm3, .slice xa4 xn4 xm4, .slice xa5 xn5 xm5, .int .i64 xc, .int .i64 xe] 31)).alloc (.cells #[.int .i64 0, .slice none 0 0, .slice none 0 0, .slice none 0 0, .slice none 0 0, .slice none 0 0, .int .i64 0, .int .i64 0] 31)).alloc (.cells #[.int .i64 vk, .slice va1 vn1 vm1, .slice va2 vn2 vm2, .slice va3 vn3 vm3, .slice va4 vn4 vm4, .slice va5 vn5 vm5, .int .i64 vc, .int .i64 ve, .int .i64 uk, .slice ua1 un1 um1, .slice ua2 un2 um2, .slice ua3 un3 um3, .slice ua4 un4 um4, .slice ua5 un5 um5, .int .i64 uc, .int .i64 ue] 31) = W := ⟨_, rfl⟩
  have hs1 : (w.alloc (.cells #[.int .i64 vk, .slice va1 vn1 vm1, .slice va2 vn2 vm2, .slice va3 vn3 vm3, .slice va4 vn4 vm4, .slice va5 vn5 vm5, .int .i64 vc, .int .i64 ve] 31)).heap.size = w.heap.size + 1 := by simp
  have hs2 : ((w.alloc (.cells #[.int .i64 vk, .slice va1 vn1 vm1, .slice va2 vn2 vm2, .slice va3 vn3 vm3, .slice va4 vn4 vm4, .slice va5 vn5 vm5, .int .i64 vc, .int .i64 ve] 31)).alloc (.cells #[.int .i64 uk, .slice ua1 un1 um1, .slice ua2 un2 um2, .slice ua3 un3 um3, .slice ua4 un4 um4, .slice ua5 un5 um5, .int .i64 uc, .int .i64 ue] 31)).heap.size = w.heap.size + 1 + 1 := by simp
  have hs3 : (((w.alloc (.cells #[.int .i64 vk, .slice va1 vn1 vm1, .slice va2 vn2 vm2, .slice va3 vn3 vm3, .slice va4 vn4 vm4, .slice va5 vn5 vm5, .int .i64 vc, .int .i64 ve] 31)).alloc (.cells #[.int .i64 uk, .slice ua1 un1 um1, .slice ua2 un2 um2, .slice ua3 un3 um3, .slice ua4 un4 um4, .slice ua5 un5 um5, .int .i64 uc, .int .i64 ue] 31)).alloc (.cells #[.int .i64 xk, .slice xa1 xn1 xm1, .slice xa2 xn2 xm2, .slice xa3 xn3 xm3, .slice xa4 xn4 xm4, .slice xa5 xn5 xm5, .int .i64 xc, .int .i64 xe] 31)).heap.size = w.heap.size + 1 + 1 + 1 := by simp
  have hs4 : ((((w.alloc (.cells #[.int .i64 vk, .slice va1 vn1 vm1, .slice va2 vn2 vm2, .slice va3 vn3 vm3, .slice va4 vn4 vm4, .slice va5 vn5 vm5, .int .i64 vc, .int .i64 ve] 31)).alloc (.cells #[.int .i64 uk, .slice ua1 un1 um1, .slice ua2 un2 um2, .slice ua3 un3 um3, .slice ua4 un4 um4, .slice ua5 un5 um5, .int .i64 uc, .int .i64 ue] 31)).alloc (.cells #[.int .i64 xk, .slice xa1 xn1 xm1, .slice xa2 xn2 xm2, .slice xa3 xn3 xm3, .slice xa4 xn4 xm4, .slice xa5 xn5 xm5, .int .i64 xc, .int .i64 xe] 31)).alloc (.cells #[.int .i64 0, .slice none 0 0, .slice none 0 0, .slice none 0 0, .slice none 0 0, .slice none 0 0, .int .i64 0, .int .i64 0] 31)).heap.size = w.heap.size + 1 + 1 + 1 + 1 := by simp
  have B1 := Lib.hid (show Below w.heap.size w w1 from hw1 ▸ (((((below1 w _).alloc (by simp) _).alloc (by simp; omega) _).alloc (by simp; omega) _).alloc (by simp; omega) _))
  have KA := Lib.hid (show w1.heap[w.heap.size]? = some (.cells #[.int .i64 vk, .slice va1 vn1 vm1, .slice va2 vn2 vm2, .slice va3 vn3 vm3, .slice va4 vn4 vm4, .slice va5 vn5 vm5, .int .i64 vc, .int .i64 ve] 31 (0, 0)) from hw1 ▸ blk_old (blk_old (blk_old (blk_old (blk_new w _ rfl)))))
  have KB := Lib.hid (show w1.heap[(w.heap.size + 1)]? = some (.cells #[.int .i64 uk, .slice ua1 un1 um1, .slice ua2 un2 um2, .slice ua3 un3 um3, .slice ua4 un4 um4, .slice ua5 un5 um5, .int .i64 uc, .int .i64 ue] 31 (0, 0)) from hw1 ▸ blk_old (blk_old (blk_old (hs1 ▸ blk_new (w.alloc (.cells #[.int .i64 vk, .slice va1 vn1 vm1, .slice va2 vn2 vm2, .slice va3 vn3 vm3, .slice va4 vn4 vm4, .slice va5 vn5 vm5, .int .i64 vc, .int .i64 ve] 31)) (.cells #[.int .i64 uk, .slice ua1 un1 um1, .slice ua2 un2 um2, .slice ua3 un3 um3, .slice ua4 un4 um4, .slice ua5 un5 um5, .int .i64 uc, .int .i64 ue] 31) rfl))))
  have KC := Lib.hid (show w1.heap[(w.heap.size + 1 + 1)]? = some (.cells #[.int .i64 xk, .slice xa1 xn1 xm1, .slice xa2 xn2 xm2, .slice xa3 xn3 xm3, .slice xa4 xn4 xm4, .slice xa5 xn5 xm5, .int .i64 xc, .int .i64 xe] 31 (0, 0)) from hw1 ▸ blk_old (blk_old (hs2 ▸ blk_new ((w.alloc (.cells #[.int .i64 vk, .slice va1 vn1 vm1, .slice va2 vn2 vm2, .slice va3 vn3 vm3, .slice va4 vn4 vm4, .slice va5 vn5 vm5, .int .i64 vc, .int .i64 ve] 31)).alloc (.cells #[.int .i64 uk, .slice ua1 un1 um1, .slice ua2 un2 um2, .slice ua3 un3 um3, .slice ua4 un4 um4, .slice ua5 un5 um5, .int .i64 uc, .int .i64 ue] 31)) (.cells #[.int .i64 xk, .slice xa1 xn1 xm1, .slice xa2 xn2 xm2, .slice xa3 xn3 xm3, .slice xa4 xn4 xm4, .slice xa5 xn5 xm5, .int .i64 xc, .int .i64 xe] 31) rfl)))
  have KR := Lib.hid (show w1.heap[(w.heap.size + 1 + 1 + 1)]? = some (.cells #[.int .i64 0, .slice none 0 0, .slice none 0 0, .slice none 0 0, .slice none 0 0, .slice none 0 0, .int .i64 0, .int .i64 0] 31 (0, 0)) from hw1 ▸ blk_old (hs3 ▸ blk_new (((w.alloc (.cells #[.int .i64 vk, .slice va1 vn1 vm1, .slice va2 vn2 vm2, .slice va3 vn3 vm3, .slice va4 vn4 vm4, .slice va5 vn5 vm5, .int .i64 vc, .int .i64 ve] 31)).alloc (.cells #[.int .i64 uk, .slice ua1 un1 um1, .slice ua2 un2 um2, .slice ua3 un3 um3, .slice ua4 un4 um4, .slice ua5 un5 um5, .int .i64 uc, .int .i64 ue] 31)).alloc (.cells #[.int .i64 xk, .slice xa1 xn1 xm1, .slice xa2 xn2 xm2, .slice xa3 xn3 xm3, .slice xa4 xn4 xm4, .slice xa5 xn5 xm5, .int .i64 xc, .int .i64 xe] 31)) (.cells #[.int .i64 0, .slice none 0 0, .slice none 0 0, .slice none 0 0, .slice none 0 0, .slice none 0 0, .int .i64 0, .int .i64 0] 31) rfl))
  have KG := Lib.hid (show w1.heap[(w.heap.size + 1 + 1 + 1 + 1)]? = some (.cells #[.int .i64 vk, .slice va1 vn1 vm1, .slice va2 vn2 vm2, .slice va3 vn3 vm3, .slice va4 vn4 vm4, .slice va5 vn5 vm5, .int .i64 vc, .int .i64 ve, .int .i64 uk, .slice ua1 un1 um1, .slice ua2 un2 um2, .slice ua3 un3 um3, .slice ua4 un4 um4, .slice ua5 un5 um5, .int .i64 uc, .int .i64 ue] 31 (0, 0)) from hw1 ▸ hs4 ▸ blk_new ((((w.alloc (.cells #[.int .i64 vk, .slice va1 vn1 vm1, .slice va2 vn2 vm2, .slice va3 vn3 vm3, .slice va4 vn4 vm4, .slice va5 vn5 vm5, .int .i64 vc, .int .i64 ve] 31)).alloc (.cells #[.int .i64 uk, .slice ua1 un1 um1, .slice ua2 un2 um2, .slice ua3 un3 um3, .slice ua4 un4 um4, .slice ua5 un5 um5, .int .i64 uc, .int .i64 ue] 31)).alloc (.cells #[.int .i64 xk, .slice xa1 xn1 xm1, .slice xa2 xn2 xm2, .slice xa3 xn3 xm3, .slice xa4 xn4 xm4, .slice xa5 xn5 xm5, .int .i64 xc, .int .i64 xe] 31)).alloc (.cells #[.int .i64 0, .slice none 0 0, .slice none 0 0, .slice none 0 0, .slice none 0 0, .slice none 0 0, .int .i64 0, .int .i64 0] 31)) (.cells #[.int .i64 vk, .slice va1 vn1 vm1, .slice va2 vn2 vm2, .slice va3 vn3 vm3, .slice va4 vn4 vm4, .slice va5 vn5 vm5, .int .i64 vc, .int .i64 ve, .int .i64 uk, .slice ua1 un1 um1, .slice ua2 un2 um2, .slice ua3 un3 um3, .slice ua4 un4 um4, .slice ua5 un5 um5, .int .i64 uc, .int .i64 ue] 31) rfl)
  have Z1 := Lib.hid (show w1.heap.size = w.heap.size + 1 + 1 + 1 + 1 + 1 from hw1 ▸ (by simp))
  rw [hw1]
  clear hw1 hs1 hs2 hs3 hs4
  with_reducible refine (CV.out _ _ B1.out KG.out).mono ?_
  rintro e w2 ⟨rfl, b⟩
  have B2 := Lib.hid (below_then B1.out b)
  have KB := Lib.hid (blk_below b KB.out)
  have KC := Lib.hid (blk_below b KC.out)
  have KR := Lib.hid (blk_below b KR.out)
  clear b KG KA CV
  by_cases q : ValidV v ∧ ValidV u
  · have XN := Lib.hid (fun h1 => XN.out q h1)
    have XY := Lib.hid (fun h1 => XY.out q h1)
    rw [bB_yes q]
    clear q XB
    obtain ⟨k0, k1, k2, k3, k4, k5, k6, k7⟩ := vec8 KB.out
    go_wp2_with fail
    with_reducible refine (CT.out _ B2.out).mono ?_
    rintro e w3 ⟨rfl, b⟩
    have B3 := Lib.hid (below_then B2.out b)
    have KC := Lib.hid (blk_below b KC.out)
    have KR := Lib.hid (blk_below b KR.out)
    clear b KB CT k0 k1 k2 k3 k4 k5 k6 k7
    by_cases qt : TxK u
    · rw [bB_yes qt]
      obtain ⟨k0, k1, k2, k3, k4, k5, k6, k7⟩ := vec8 KC.out
      go_wp2_with fail
      with_reducible refine (CI.out _ B3.out).mono ?_
      rintro e w4 ⟨rfl, b⟩
      have B4 := Lib.hid (below_then B3.out b)
      have KC := Lib.hid (blk_below b KC.out)
      have KR := Lib.hid (blk_below b KR.out)
      have KRS := Lib.hid (Array.getElem?_eq_some_iff.1 KR.out).1
      clear b k0 k1 k2 k3 k4 k5 k6 k7 CI
      by_cases qv : ValidV x
      · have XX := Lib.hid (XY.out ⟨qt, qv⟩)
        rw [bB_yes qv]
        clear qt qv XN XY
        obtain ⟨k0, k1, k2, k3, k4, k5, k6, k7⟩ := vec8 KC.out
        go_wp2_with fail
        refine (CC.out _ B4.out).mono ?_
        rintro e w5 ⟨y, rfl, ho, b⟩
        obtain ⟨yk, ya1, yn1, ym1, ya2, yn2, ym2, ya3, yn3, ym3, ya4, yn4, ym4, ya5, yn5, ym5, yc, ye, rfl⟩ := ho.agg
        have B5 := Lib.hid (below_then B4.out b)
        have KR := Lib.hid (blk_below b KR.out)
        have hr5 : w.heap.size + 1 + 1 + 1 < w4.heap.size := KRS.out
        have HO := Lib.hid ho
        have L4 := Lib.hid B4.out.size
        clear ho b k0 k1 k2 k3 k4 k5 k6 k7
        obtain ⟨z0, z1, z2, z3, z4, z5, z6, z7⟩ := vec8 KR.out
        obtain ⟨f0, f1, f2, f3, f4, f5, f6, f7⟩ := free8 KR.out
        go_wp2
        rw [XX.out.1, XX.out.2]
        exact vec_endS rfl rfl rfl rfl KR.out ⟨_, rfl, (HO.out.put8 hr5 _ _ _ _ _ _ _ _).wide L4.out (by rw [put8_size]; exact Nat.le_refl _), put8_below B5.out (by omega)⟩
      · have XX := Lib.hid (XN.out (fun h => qv h.2))
        rw [bB_no qv]
        clear qt qv XN XY
        obtain ⟨z0, z1, z2, z3, z4, z5, z6, z7⟩ := vec8 KR.out
        obtain ⟨f0, f1, f2, f3, f4, f5, f6, f7⟩ := free8 KR.out
        go_wp2
        rw [XX.out.1, XX.out.2]
        exact vec_endS rfl rfl rfl rfl KR.out (zeroSA _ _ w _ (put8_below B4.out (by omega)))
    · have XX := Lib.hid (XN.out (fun h => qt h.1))
      rw [bB_no qt]
      clear qt XN XY
      obtain ⟨z0, z1, z2, z3, z4, z5, z6, z7⟩ := vec8 KR.out
      obtain ⟨f0, f1, f2, f3, f4, f5, f6, f7⟩ := free8 KR.out
      go_wp2
      rw [XX.out.1, XX.out.2]
      exact vec_endS rfl rfl rfl rfl KR.out (zeroSA _ _ w _ (put8_below B3.out (by omega)))
  · have XX := Lib.hid (XB.out q)
    rw [bB_no q]
    clear q XB XN XY
    obtain ⟨z0, z1, z2, z3, z4, z5, z6, z7⟩ := vec8 KR.out
    obtain ⟨f0, f1, f2, f3, f4, f5, f6, f7⟩ := free8 KR.out
    go_wp2
    rw [XX.out.1, XX.out.2]
    exact vec_endS rfl rfl rfl rfl KR.out (zeroSA _ _ w _ (put8_below B2.out (by omega)))
theorem small_xClass {d d2 : Nat} {v u : Vec} (h : Small (d + 1) v) (hu : Small d2 u) : Small (d + 1) (setC v (txL (itemsV u))) := by
  obtain ⟨kk, items, parts, names, cls, levels, code, env⟩ := v
  obtain ⟨uk, ui, up, un, uc, ul, uco, ue⟩ := u
  cases d2 with
  | zero => exact hu.elim
  | succ d2 =>
    obtain ⟨h1, h2, h3, h4, h5, h6, h7, h8, h9, h10⟩ := h
    have hc : (txL ui).length ≤ 1048576 := by rw [txL_len]; exact hu.1
    have hs : ∀ s ∈ txL ui, s.size ≤ 1048576 := fun s hs => by obtain ⟨x, hx, rfl⟩ := txL_mem hs; exact hu.2.2.2.2.2.1 x hx
    show Small (d + 1) (.mk kk items parts names (txL ui) levels code env)
    unfold Small
    exact ⟨h1, h2, h3, hc, h5, h6, h7, hs, h9, h10⟩
set_option maxHeartbeats 4000000 in
theorem implAssignClass (d d2 : Nat) (v u : Vec) (val valu : Value) (lo hi : Nat) (w : World) (hv : VecAt lo hi w d v val) (hu : VecAt lo hi w d2 u valu) (hhi : hi ≤ w.heap.size) (hsm : Small d v) (hsu : Small d2 u) :
    Calls Try.prog 14 #[val, valu] w (ResVS d (lbV (setC v (txL (itemsV u))) u v) (lbS clsB (setC v (txL (itemsV u))) u v) w) := by
  have CT := Lib.hid (fun (W : World) (hb : Below w.heap.size w W) => implTextsOf d2 u valu lo hi W (hu.below hb hhi) (Nat.le_trans hhi hb.size) hsu)
  obtain ⟨d', ed⟩ : ∃ d', d = d' + 1 := by
    cases v with
    | mk kk items parts names cls levels code env => obtain ⟨d', ai, ci, ap, cp, an, cn, ac, cc, al, cl, ed, _⟩ := vecAt_open hv; exact ⟨d', ed⟩
  subst ed
  have SX := small_xClass hsm hsu
  have CL := Lib.hid (fun (W : World) (x : Value) (hb : Below w.heap.size w W) (hx : VecAt 0 W.heap.size W (d' + 1) (setC v (txL (itemsV u))) x) => implWithLab d' d2 v u (setC v (txL (itemsV u))) val valu x clsB 0 W.heap.size W ((hv.below hb hhi).wide (Nat.zero_le _) (Nat.le_trans hhi hb.size)) ((hu.below hb hhi).wide (Nat.zero_le _) (Nat.le_trans hhi hb.size)) hx (Nat.le_refl _) hsm hsu SX)
  obtain ⟨VV, hVV⟩ : ∃ V, lbV (setC v (txL (itemsV u))) u v = V := ⟨_, rfl⟩
  obtain ⟨SS, hSS⟩ : ∃ S, lbS clsB (setC v (txL (itemsV u))) u v = S := ⟨_, rfl⟩
  rw [hVV, hSS] at CL ⊢
  obtain ⟨T, hT'⟩ : ∃ T, (txL (itemsV u)) = T := ⟨_, rfl⟩
  rw [hT'] at CT CL
  clear hVV hSS hT' SX hsm hsu
  obtain ⟨uk, ua1, un1, um1, ua2, un2, um2, ua3, un3, um3, ua4, un4, um4, ua5, un5, um5, uc, ue, rfl⟩ := hu.agg
  obtain ⟨kk, items, parts, names, cls, levels, code, env⟩ := v
  obtain ⟨d'', ai, ci, ap, cp, an, cn, ac, cc, al, cl, ed, rfl, hI, hN, hC, hL, hP, hcp⟩ := vecAt_openC hv
  obtain rfl : d' = d'' := by omega
  have MK := Lib.hid (fun (W : World) (hb : Below w.heap.size w W) (sc : Option Addr) (qc : Nat) (hT : TextsAt 0 W.heap.size W sc T) (hq : T.length ≤ qc) => (by
    have hw : hi ≤ W.heap.size := Nat.le_trans hhi hb.size
    exact vecAt_mk ((hI.below hb hhi).wide (Nat.zero_le _) hw) ((hN.below hb hhi).wide (Nat.zero_le _) hw) hT ((hL.below hb hhi).wide (Nat.zero_le _) hw) (fun i p hp => by
      obtain ⟨b, off, c0, c1, c2, c3, c4, c5, c6, c7, e, g0, g1, hvv, m⟩ := (hP.below hb hhi) i p hp
      exact ⟨b, off, c0, c1, c2, c3, c4, c5, c6, c7, e, Nat.zero_le _, by omega, VecAt.wide (Nat.zero_le _) hw _ _ _ hvv, m⟩) ⟨hcp.1, hcp.2.1, hcp.2.2.1, hq, hcp.2.2.2.2⟩ : VecAt 0 W.heap.size W (d' + 1) (.mk kk items parts names T levels code env) (.agg #[.int .i64 kk, .slice ai items.length ci, .slice ap parts.length cp, .slice an names.length cn, .slice sc T.length qc, .slice al levels.length cl, .int .i64 code, .int .i64 env])))
  clear hv hu hI hN hC hL hP hcp hhi
  go_enter Try.func14, Try.ntmps14
  go_wp2_with fail
  obtain ⟨w1, hw1⟩ : ∃ W, (((w.alloc (.cells #[.int .i64 kk, .slice ai items.length ci, .slice ap parts.length cp, .slice an names.length cn, .slice ac cls.length cc, .slice al levels.length cl, .int .i64 code, .int .i64 env] 31)).alloc (.cells #[.int .i64 uk, .slice ua1 un1 um1, .slice ua2 un2 um2, .slice ua3 un3 um3, .slice ua4 un4 um4, .slice ua5 un5 um5, .int .i64 uc, .int .i64 ue] 31)).alloc (.cells #[.int .i64 0, .slice none 0 0, .slice none 0 0, .slice none 0 0, .slice none 0 0, .slice none 0 0, .int .i64 0, .int .i64 0] 31)).alloc (.cells #[.int .i64 kk, .slice ai items.length ci, .slice ap parts.length cp, .slice an names.length cn, .slice ac cls.length cc, .slice al levels.length cl, .int .i64 code, .int .i64 env] 31) = W := ⟨_, rfl⟩
  have hs1 : (w.alloc (.cells #[.int .i64 kk, .slice ai items.length ci, .slice ap parts.length cp, .slice an names.length cn, .slice ac cls.length cc, .slice al levels.length cl, .int .i64 code, .int .i64 env] 31)).heap.size = w.heap.size + 1 := by simp
  have hs2 : ((w.alloc (.cells #[.int .i64 kk, .slice ai items.length ci, .slice ap parts.length cp, .slice an names.length cn, .slice ac cls.length cc, .slice al levels.length cl, .int .i64 code, .int .i64 env] 31)).alloc (.cells #[.int .i64 uk, .slice ua1 un1 um1, .slice ua2 un2 um2, .slice ua3 un3 um3, .slice ua4 un4 um4, .slice ua5 un5 um5, .int .i64 uc, .int .i64 ue] 31)).heap.size = w.heap.size + 1 + 1 := by simp
  have hs3 : (((w.alloc (.cells #[.int .i64 kk, .slice ai items.length ci, .slice ap parts.length cp, .slice an names.length cn, .slice ac cls.length cc, .slice al levels.length cl, .int .i64 code, .int .i64 env] 31)).alloc (.cells #[.int .i64 uk, .slice ua1 un1 um1, .slice ua2 un2 um2, .slice ua3 un3 um3, .slice ua4 un4 um4, .slice ua5 un5 um5, .int .i64 uc, .int .i64 ue] 31)).alloc (.cells #[.int .i64 0, .slice none 0 0, .slice none 0 0, .slice none 0 0, .slice none 0 0, .slice none 0 0, .int .i64 0, .int .i64 0] 31)).heap.size = w.heap.size + 1 + 1 + 1 := by simp
  have B1 := Lib.hid (show Below w.heap.size w w1 from hw1 ▸ ((((below1 w _).alloc (by simp) _).alloc (by simp; omega) _).alloc (by simp; omega) _))
  have KA := Lib.hid (show w1.heap[w.heap.size]? = some (.cells #[.int .i64 kk, .slice ai items.length ci, .slice ap parts.length cp, .slice an names.length cn, .slice ac cls.length cc, .slice al levels.length cl, .int .i64 code, .int .i64 env] 31 (0, 0)) from hw1 ▸ blk_old (blk_old (blk_old (blk_new w _ rfl))))
  have KB := Lib.hid (show w1.heap[(w.heap.size + 1)]? = some (.cells #[.int .i64 uk, .slice ua1 un1 um1, .slice ua2 un2 um2, .slice ua3 un3 um3, .slice ua4 un4 um4, .slice ua5 un5 um5, .int .i64 uc, .int .i64 ue] 31 (0, 0)) from hw1 ▸ blk_old (blk_old (hs1 ▸ blk_new (w.alloc (.cells #[.int .i64 kk, .slice ai items.length ci, .slice ap parts.length cp, .slice an names.length cn, .slice ac cls.length cc, .slice al levels.length cl, .int .i64 code, .int .i64 env] 31)) (.cells #[.int .i64 uk, .slice ua1 un1 um1, .slice ua2 un2 um2, .slice ua3 un3 um3, .slice ua4 un4 um4, .slice ua5 un5 um5, .int .i64 uc, .int .i64 ue] 31) rfl)))
  have KR := Lib.hid (show w1.heap[(w.heap.size + 1 + 1)]? = some (.cells #[.int .i64 0, .slice none 0 0, .slice none 0 0, .slice none 0 0, .slice none 0 0, .slice none 0 0, .int .i64 0, .int .i64 0] 31 (0, 0)) from hw1 ▸ blk_old (hs2 ▸ blk_new ((w.alloc (.cells #[.int .i64 kk, .slice ai items.length ci, .slice ap parts.length cp, .slice an names.length cn, .slice ac cls.length cc, .slice al levels.length cl, .int .i64 code, .int .i64 env] 31)).alloc (.cells #[.int .i64 uk, .slice ua1 un1 um1, .slice ua2 un2 um2, .slice ua3 un3 um3, .slice ua4 un4 um4, .slice ua5 un5 um5, .int .i64 uc, .int .i64 ue] 31)) (.cells #[.int .i64 0, .slice none 0 0, .slice none 0 0, .slice none 0 0, .slice none 0 0, .slice none 0 0, .int .i64 0, .int .i64 0] 31) rfl))
  have KX := Lib.hid (show w1.heap[(w.heap.size + 1 + 1 + 1)]? = some (.cells #[.int .i64 kk, .slice ai items.length ci, .slice ap parts.length cp, .slice an names.length cn, .slice ac cls.length cc, .slice al levels.length cl, .int .i64 code, .int .i64 env] 31 (0, 0)) from hw1 ▸ hs3 ▸ blk_new (((w.alloc (.cells #[.int .i64 kk, .slice ai items.length ci, .slice ap parts.length cp, .slice an names.length cn, .slice ac cls.length cc, .slice al levels.length cl, .int .i64 code, .int .i64 env] 31)).alloc (.cells #[.int .i64 uk, .slice ua1 un1 um1, .slice ua2 un2 um2, .slice ua3 un3 um3, .slice ua4 un4 um4, .slice ua5 un5 um5, .int .i64 uc, .int .i64 ue] 31)).alloc (.cells #[.int .i64 0, .slice none 0 0, .slice none 0 0, .slice none 0 0, .slice none 0 0, .slice none 0 0, .int .i64 0, .int .i64 0] 31)) (.cells #[.int .i64 kk, .slice ai items.length ci, .slice ap parts.length cp, .slice an names.length cn, .slice ac cls.length cc, .slice al levels.length cl, .int .i64 code, .int .i64 env] 31) rfl)
  have Z1 := Lib.hid (show w1.heap.size = w.heap.size + 1 + 1 + 1 + 1 from hw1 ▸ (by simp))
  rw [hw1]
  clear hw1 hs1 hs2 hs3
  refine (CT.out _ B1.out).mono ?_
  rintro e w2 ⟨v2, rfl, tz⟩
  obtain ⟨sc, qc, Fc, rfl, _, _, _, hqc⟩ := txs_of_row tz.row
  have B2 := Lib.hid (below_then B1.out tz.below)
  have KA := Lib.hid (blk_below tz.below KA.out)
  have KB := Lib.hid (blk_below tz.below KB.out)
  have KR := Lib.hid (blk_below tz.below KR.out)
  have KX := Lib.hid (blk_below tz.below KX.out)
  have TR := Lib.hid tz.row
  have HQ := Lib.hid hqc
  have hbw := (Array.getElem?_eq_some_iff.1 KX.out).1
  clear tz hqc CT
  obtain ⟨a0, a1, a2, a3, a4, a5, a6, a7⟩ := vec8 KA.out
  obtain ⟨b0, b1, b2, b3, b4, b5, b6, b7⟩ := vec8 KB.out
  obtain ⟨k0, k1, k2, k3, k4, k5, k6, k7⟩ := vec8 KX.out
  obtain ⟨g0, g1, g2, g3, g4, g5, g6, g7⟩ := free8 KX.out
  go_upto_region 3 with (fail)
  clear a0 a1 a2 a3 a4 a5 a6 a7 b0 b1 b2 b3 b4 b5 b6 b7 k0 k1 k2 k3 k4 k5 k6 k7 g0 g1 g2 g3 g4 g5 g6 g7 hbw
  obtain ⟨w3, hw⟩ : ∃ W, w2.setCell ⟨w.heap.size + 1 + 1 + 1, 4, none⟩ (.slice sc T.length qc) = W := ⟨_, rfl⟩
  have KX := Lib.hid (show w3.heap[(w.heap.size + 1 + 1 + 1)]? = some (.cells #[.int .i64 kk, .slice ai items.length ci, .slice ap parts.length cp, .slice an names.length cn, .slice sc T.length qc, .slice al levels.length cl, .int .i64 code, .int .i64 env] 31 (0, 0)) from hw ▸ Joins.block_setCell KX.out _)
  have KA := Lib.hid (show w3.heap[w.heap.size]? = some (.cells #[.int .i64 kk, .slice ai items.length ci, .slice ap parts.length cp, .slice an names.length cn, .slice ac cls.length cc, .slice al levels.length cl, .int .i64 code, .int .i64 env] 31 (0, 0)) from hw ▸ (Below.heap_setCell _ _ _ _ (show w.heap.size ≠ (w.heap.size + 1 + 1 + 1) by omega)).trans KA.out)
  have KB := Lib.hid (show w3.heap[(w.heap.size + 1)]? = some (.cells #[.int .i64 uk, .slice ua1 un1 um1, .slice ua2 un2 um2, .slice ua3 un3 um3, .slice ua4 un4 um4, .slice ua5 un5 um5, .int .i64 uc, .int .i64 ue] 31 (0, 0)) from hw ▸ (Below.heap_setCell _ _ _ _ (show (w.heap.size + 1) ≠ (w.heap.size + 1 + 1 + 1) by omega)).trans KB.out)
  have KR := Lib.hid (show w3.heap[(w.heap.size + 1 + 1)]? = some (.cells #[.int .i64 0, .slice none 0 0, .slice none 0 0, .slice none 0 0, .slice none 0 0, .slice none 0 0, .int .i64 0, .int .i64 0] 31 (0, 0)) from hw ▸ (Below.heap_setCell _ _ _ _ (show (w.heap.size + 1 + 1) ≠ (w.heap.size + 1 + 1 + 1) by omega)).trans KR.out)
  have B3 := Lib.hid (show Below w.heap.size w w3 from hw ▸ B2.out.setCell (p := ⟨w.heap.size + 1 + 1 + 1, 4, none⟩) (show w.heap.size ≤ (w.heap.size + 1 + 1 + 1) by omega) _)
  have HT := Lib.hid (show TextsAt 0 w3.heap.size w3 sc T from by
    have hr := ownsRow_kept TR.out (w' := w3) (fun g hg => hw ▸ Below.heap_setCell _ _ _ _ (show g ≠ (w.heap.size + 1 + 1 + 1) by have h1 := (TR.out.lt g hg).1; rw [Z1.out] at h1; omega))
    obtain ⟨a, c, F, e, ho, _, hrg, _⟩ := txs_of_row hr
    cases e
    exact ho.at_ (fun b hb => ⟨Nat.zero_le _, (hrg b hb).2⟩))
  rw [hw]
  clear hw TR
  obtain ⟨a0, a1, a2, a3, a4, a5, a6, a7⟩ := vec8 KA.out
  obtain ⟨b0, b1, b2, b3, b4, b5, b6, b7⟩ := vec8 KB.out
  obtain ⟨k0, k1, k2, k3, k4, k5, k6, k7⟩ := vec8 KX.out
  go_wp2_with fail
  refine (CL.out _ _ B3.out (MK.out _ B3.out sc qc HT.out HQ.out)).mono ?_
  rintro e w4 ⟨y, rfl, ho, b⟩
  obtain ⟨yk, ya1, yn1, ym1, ya2, yn2, ym2, ya3, yn3, ym3, ya4, yn4, ym4, ya5, yn5, ym5, yc, ye, rfl⟩ := ho.agg
  have B4 := Lib.hid (below_then B3.out b)
  have hr3 := (Array.getElem?_eq_some_iff.1 KR.out).1
  have KR := Lib.hid (blk_below b KR.out)
  have HO := Lib.hid ho
  have L3 := Lib.hid B3.out.size
  clear ho b a0 a1 a2 a3 a4 a5 a6 a7 b0 b1 b2 b3 b4 b5 b6 b7 k0 k1 k2 k3 k4 k5 k6 k7
  obtain ⟨z0, z1, z2, z3, z4, z5, z6, z7⟩ := vec8 KR.out
  obtain ⟨f0, f1, f2, f3, f4, f5, f6, f7⟩ := free8 KR.out
  go_wp2
  exact vec_endS rfl rfl rfl rfl KR.out ⟨_, rfl, (HO.out.put8 hr3 _ _ _ _ _ _ _ _).wide L3.out (by rw [put8_size]; exact Nat.le_refl _), put8_below B4.out (by omega)⟩
theorem small_xLevels {d d2 : Nat} {v u : Vec} (h : Small (d + 1) v) (hu : Small d2 u) : Small (d + 1) (setL v (txL (itemsV u))) := by
  obtain ⟨kk, items, parts, names, cls, levels, code, env⟩ := v
  obtain ⟨uk, ui, up, un, uc, ul, uco, ue⟩ := u
  cases d2 with
  | zero => exact hu.elim
  | succ d2 =>
    obtain ⟨h1, h2, h3, h4, h5, h6, h7, h8, h9, h10⟩ := h
    have hc : (txL ui).length ≤ 1048576 := by rw [txL_len]; exact hu.1
    have hs : ∀ s ∈ txL ui, s.size ≤ 1048576 := fun s hs => by obtain ⟨x, hx, rfl⟩ := txL_mem hs; exact hu.2.2.2.2.2.1 x hx
    show Small (d + 1) (.mk kk items parts names cls (txL ui) code env)
    unfold Small
    exact ⟨h1, h2, h3, h4, hc, h6, h7, h8, hs, h10⟩
set_option maxHeartbeats 4000000 in
theorem implAssignLevels (d d2 : Nat) (v u : Vec) (val valu : Value) (lo hi : Nat) (w : World) (hv : VecAt lo hi w d v val) (hu : VecAt lo hi w d2 u valu) (hhi : hi ≤ w.heap.size) (hsm : Small d v) (hsu : Small d2 u) :
    Calls Try.prog 16 #[val, valu] w (ResVS d (lbV (setL v (txL (itemsV u))) u v) (lbS levB (setL v (txL (itemsV u))) u v) w) := by
  have CT := Lib.hid (fun (W : World) (hb : Below w.heap.size w W) => implTextsOf d2 u valu lo hi W (hu.below hb hhi) (Nat.le_trans hhi hb.size) hsu)
  obtain ⟨d', ed⟩ : ∃ d', d = d' + 1 := by
    cases v with
    | mk kk items parts names cls levels code env => obtain ⟨d', ai, ci, ap, cp, an, cn, ac, cc, al, cl, ed, _⟩ := vecAt_open hv; exact ⟨d', ed⟩
  subst ed
  have SX := small_xLevels hsm hsu
  have CL := Lib.hid (fun (W : World) (x : Value) (hb : Below w.heap.size w W) (hx : VecAt 0 W.heap.size W (d' + 1) (setL v (txL (itemsV u))) x) => implWithLab d' d2 v u (setL v (txL (itemsV u))) val valu x levB 0 W.heap.size W ((hv.below hb hhi).wide (Nat.zero_le _) (Nat.le_trans hhi hb.size)) ((hu.below hb hhi).wide (Nat.zero_le _) (Nat.le_trans hhi hb.size)) hx (Nat.le_refl _) hsm hsu SX)
  obtain ⟨VV, hVV⟩ : ∃ V, lbV (setL v (txL (itemsV u))) u v = V := ⟨_, rfl⟩
  obtain ⟨SS, hSS⟩ : ∃ S, lbS levB (setL v (txL (itemsV u))) u v = S := ⟨_, rfl⟩
  rw [hVV, hSS] at CL ⊢
  obtain ⟨T, hT'⟩ : ∃ T, (txL (itemsV u)) = T := ⟨_, rfl⟩
  rw [hT'] at CT CL
  clear hVV hSS hT' SX hsm hsu
  obtain ⟨uk, ua1, un1, um1, ua2, un2, um2, ua3, un3, um3, ua4, un4, um4, ua5, un5, um5, uc, ue, rfl⟩ := hu.agg
  obtain ⟨kk, items, parts, names, cls, levels, code, env⟩ := v
  obtain ⟨d'', ai, ci, ap, cp, an, cn, ac, cc, al, cl, ed, rfl, hI, hN, hC, hL, hP, hcp⟩ := vecAt_openC hv
  obtain rfl : d' = d'' := by omega
  have MK := Lib.hid (fun (W : World) (hb : Below w.heap.size w W) (sc : Option Addr) (qc : Nat) (hT : TextsAt 0 W.heap.size W sc T) (hq : T.length ≤ qc) => (by
    have hw : hi ≤ W.heap.size := Nat.le_trans hhi hb.size
    exact vecAt_mk ((hI.below hb hhi).wide (Nat.zero_le _) hw) ((hN.below hb hhi).wide (Nat.zero_le _) hw) ((hC.below hb hhi).wide (Nat.zero_le _) hw) hT (fun i p hp => by
      obtain ⟨b, off, c0, c1, c2, c3, c4, c5, c6, c7, e, g0, g1, hvv, m⟩ := (hP.below hb hhi) i p hp
      exact ⟨b, off, c0, c1, c2, c3, c4, c5, c6, c7, e, Nat.zero_le _, by omega, VecAt.wide (Nat.zero_le _) hw _ _ _ hvv, m⟩) ⟨hcp.1, hcp.2.1, hcp.2.2.1, hcp.2.2.2.1, hq⟩ : VecAt 0 W.heap.size W (d' + 1) (.mk kk items parts names cls T code env) (.agg #[.int .i64 kk, .slice ai items.length ci, .slice ap parts.length cp, .slice an names.length cn, .slice ac cls.length cc, .slice sc T.length qc, .int .i64 code, .int .i64 env])))
  clear hv hu hI hN hC hL hP hcp hhi
  go_enter Try.func16, Try.ntmps16
  go_wp2_with fail
  obtain ⟨w1, hw1⟩ : ∃ W, (((w.alloc (.cells #[.int .i64 kk, .slice ai items.length ci, .slice ap parts.length cp, .slice an names.length cn, .slice ac cls.length cc, .slice al levels.length cl, .int .i64 code, .int .i64 env] 31)).alloc (.cells #[.int .i64 uk, .slice ua1 un1 um1, .slice ua2 un2 um2, .slice ua3 un3 um3, .slice ua4 un4 um4, .slice ua5 un5 um5, .int .i64 uc, .int .i64 ue] 31)).alloc (.cells #[.int .i64 0, .slice none 0 0, .slice none 0 0, .slice none 0 0, .slice none 0 0, .slice none 0 0, .int .i64 0, .int .i64 0] 31)).alloc (.cells #[.int .i64 kk, .slice ai items.length ci, .slice ap parts.length cp, .slice an names.length cn, .slice ac cls.length cc, .slice al levels.length cl, .int .i64 code, .int .i64 env] 31) = W := ⟨_, rfl⟩
  have hs1 : (w.alloc (.cells #[.int .i64 kk, .slice ai items.length ci, .slice ap parts.length cp, .slice an names.length cn, .slice ac cls.length cc, .slice al levels.length cl, .int .i64 code, .int .i64 env] 31)).heap.size = w.heap.size + 1 := by simp
  have hs2 : ((w.alloc (.cells #[.int .i64 kk, .slice ai items.length ci, .slice ap parts.length cp, .slice an names.length cn, .slice ac cls.length cc, .slice al levels.length cl, .int .i64 code, .int .i64 env] 31)).alloc (.cells #[.int .i64 uk, .slice ua1 un1 um1, .slice ua2 un2 um2, .slice ua3 un3 um3, .slice ua4 un4 um4, .slice ua5 un5 um5, .int .i64 uc, .int .i64 ue] 31)).heap.size = w.heap.size + 1 + 1 := by simp
  have hs3 : (((w.alloc (.cells #[.int .i64 kk, .slice ai items.length ci, .slice ap parts.length cp, .slice an names.length cn, .slice ac cls.length cc, .slice al levels.length cl, .int .i64 code, .int .i64 env] 31)).alloc (.cells #[.int .i64 uk, .slice ua1 un1 um1, .slice ua2 un2 um2, .slice ua3 un3 um3, .slice ua4 un4 um4, .slice ua5 un5 um5, .int .i64 uc, .int .i64 ue] 31)).alloc (.cells #[.int .i64 0, .slice none 0 0, .slice none 0 0, .slice none 0 0, .slice none 0 0, .slice none 0 0, .int .i64 0, .int .i64 0] 31)).heap.size = w.heap.size + 1 + 1 + 1 := by simp
  have B1 := Lib.hid (show Below w.heap.size w w1 from hw1 ▸ ((((below1 w _).alloc (by simp) _).alloc (by simp; omega) _).alloc (by simp; omega) _))
  have KA := Lib.hid (show w1.heap[w.heap.size]? = some (.cells #[.int .i64 kk, .slice ai items.length ci, .slice ap parts.length cp, .slice an names.length cn, .slice ac cls.length cc, .slice al levels.length cl, .int .i64 code, .int .i64 env] 31 (0, 0)) from hw1 ▸ blk_old (blk_old (blk_old (blk_new w _ rfl))))
  have KB := Lib.hid (show w1.heap[(w.heap.size + 1)]? = some (.cells #[.int .i64 uk, .slice ua1 un1 um1, .slice ua2 un2 um2, .slice ua3 un3 um3, .slice ua4 un4 um4, .slice ua5 un5 um5, .int .i64 uc, .int .i64 ue] 31 (0, 0)) from hw1 ▸ blk_old (blk_old (hs1 ▸ blk_new (w.alloc (.cells #[.int .i64 kk, .slice ai items.length ci, .slice ap parts.length cp, .slice an names.length cn, .slice ac cls.length cc, .slice al levels.length cl, .int .i64 code, .int .i64 env] 31)) (.cells #[.int .i64 uk, .slice ua1 un1 um1, .slice ua2 un2 um2, .slice ua3 un3 um3, .slice ua4 un4 um4, .slice ua5 un5 um5, .int .i64 uc, .int .i64 ue] 31) rfl)))
  have KR := Lib.hid (show w1.heap[(w.heap.size + 1 + 1)]? = some (.cells #[.int .i64 0, .slice none 0 0, .slice none 0 0, .slice none 0 0, .slice none 0 0, .slice none 0 0, .int .i64 0, .int .i64 0] 31 (0, 0)) from hw1 ▸ blk_old (hs2 ▸ blk_new ((w.alloc (.cells #[.int .i64 kk, .slice ai items.length ci, .slice ap parts.length cp, .slice an names.length cn, .slice ac cls.length cc, .slice al levels.length cl, .int .i64 code, .int .i64 env] 31)).alloc (.cells #[.int .i64 uk, .slice ua1 un1 um1, .slice ua2 un2 um2, .slice ua3 un3 um3, .slice ua4 un4 um4, .slice ua5 un5 um5, .int .i64 uc, .int .i64 ue] 31)) (.cells #[.int .i64 0, .slice none 0 0, .slice none 0 0, .slice none 0 0, .slice none 0 0, .slice none 0 0, .int .i64 0, .int .i64 0] 31) rfl))
  have KX := Lib.hid (show w1.heap[(w.heap.size + 1 + 1 + 1)]? = some (.cells #[.int .i64 kk, .slice ai items.length ci, .slice ap parts.length cp, .slice an names.length cn, .slice ac cls.length cc, .slice al levels.length cl, .int .i64 code, .int .i64 env] 31 (0, 0)) from hw1 ▸ hs3 ▸ blk_new (((w.alloc (.cells #[.int .i64 kk, .slice ai items.length ci, .slice ap parts.length cp, .slice an names.length cn, .slice ac cls.length cc, .slice al levels.length cl, .int .i64 code, .int .i64 env] 31)).alloc (.cells #[.int .i64 uk, .slice ua1 un1 um1, .slice ua2 un2 um2, .slice ua3 un3 um3, .slice ua4 un4 um4, .slice ua5 un5 um5, .int .i64 uc, .int .i64 ue] 31)).alloc (.cells #[.int .i64 0, .slice none 0 0, .slice none 0 0, .slice none 0 0, .slice none 0 0, .slice none 0 0, .int .i64 0, .int .i64 0] 31)) (.cells #[.int .i64 kk, .slice ai items.length ci, .slice ap parts.length cp, .slice an names.length cn, .slice ac cls.length cc, .slice al levels.length cl, .int .i64 code, .int .i64 env] 31) rfl)
  have Z1 := Lib.hid (show w1.heap.size = w.heap.size + 1 + 1 + 1 + 1 from hw1 ▸ (by simp))
  rw [hw1]
  clear hw1 hs1 hs2 hs3
  refine (CT.out _ B1.out).mono ?_
  rintro e w2 ⟨v2, rfl, tz⟩
  obtain ⟨sc, qc, Fc, rfl, _, _, _, hqc⟩ := txs_of_row tz.row
  have B2 := Lib.hid (below_then B1.out tz.below)
  have KA := Lib.hid (blk_below tz.below KA.out)
  have KB := Lib.hid (blk_below tz.below KB.out)
  have KR := Lib.hid (blk_below tz.below KR.out)
  have KX := Lib.hid (blk_below tz.below KX.out)
  have TR := Lib.hid tz.row
  have HQ := Lib.hid hqc
  have hbw := (Array.getElem?_eq_some_iff.1 KX.out).1
  clear tz hqc CT
  obtain ⟨a0, a1, a2, a3, a4, a5, a6, a7⟩ := vec8 KA.out
  obtain ⟨b0, b1, b2, b3, b4, b5, b6, b7⟩ := vec8 KB.out
  obtain ⟨k0, k1, k2, k3, k4, k5, k6, k7⟩ := vec8 KX.out
  obtain ⟨g0, g1, g2, g3, g4, g5, g6, g7⟩ := free8 KX.out
  go_upto_region 3 with (fail)
  clear a0 a1 a2 a3 a4 a5 a6 a7 b0 b1 b2 b3 b4 b5 b6 b7 k0 k1 k2 k3 k4 k5 k6 k7 g0 g1 g2 g3 g4 g5 g6 g7 hbw
  obtain ⟨w3, hw⟩ : ∃ W, w2.setCell ⟨w.heap.size + 1 + 1 + 1, 5, none⟩ (.slice sc T.length qc) = W := ⟨_, rfl⟩
  have KX := Lib.hid (show w3.heap[(w.heap.size + 1 + 1 + 1)]? = some (.cells #[.int .i64 kk, .slice ai items.length ci, .slice ap parts.length cp, .slice an names.length cn, .slice ac cls.length cc, .slice sc T.length qc, .int .i64 code, .int .i64 env] 31 (0, 0)) from hw ▸ Joins.block_setCell KX.out _)
  have KA := Lib.hid (show w3.heap[w.heap.size]? = some (.cells #[.int .i64 kk, .slice ai items.length ci, .slice ap parts.length cp, .slice an names.length cn, .slice ac cls.length cc, .slice al levels.length cl, .int .i64 code, .int .i64 env] 31 (0, 0)) from hw ▸ (Below.heap_setCell _ _ _ _ (show w.heap.size ≠ (w.heap.size + 1 + 1 + 1) by omega)).trans KA.out)
  have KB := Lib.hid (show w3.heap[(w.heap.size + 1)]? = some (.cells #[.int .i64 uk, .slice ua1 un1 um1, .slice ua2 un2 um2, .slice ua3 un3 um3, .slice ua4 un4 um4, .slice ua5 un5 um5, .int .i64 uc, .int .i64 ue] 31 (0, 0)) from hw ▸ (Below.heap_setCell _ _ _ _ (show (w.heap.size + 1) ≠ (w.heap.size + 1 + 1 + 1) by omega)).trans KB.out)
  have KR := Lib.hid (show w3.heap[(w.heap.size + 1 + 1)]? = some (.cells #[.int .i64 0, .slice none 0 0, .slice none 0 0, .slice none 0 0, .slice none 0 0, .slice none 0 0, .int .i64 0, .int .i64 0] 31 (0, 0)) from hw ▸ (Below.heap_setCell _ _ _ _ (show (w.heap.size + 1 + 1) ≠ (w.heap.size + 1 + 1 + 1) by omega)).trans KR.out)
  have B3 := Lib.hid (show Below w.heap.size w w3 from hw ▸ B2.out.setCell (p := ⟨w.heap.size + 1 + 1 + 1, 5, none⟩) (show w.heap.size ≤ (w.heap.size + 1 + 1 + 1) by omega) _)
  have HT := Lib.hid (show TextsAt 0 w3.heap.size w3 sc T from by
    have hr := ownsRow_kept TR.out (w' := w3) (fun g hg => hw ▸ Below.heap_setCell _ _ _ _ (show g ≠ (w.heap.size + 1 + 1 + 1) by have h1 := (TR.out.lt g hg).1; rw [Z1.out] at h1; omega))
    obtain ⟨a, c, F, e, ho, _, hrg, _⟩ := txs_of_row hr
    cases e
    exact ho.at_ (fun b hb => ⟨Nat.zero_le _, (hrg b hb).2⟩))
  rw [hw]
  clear hw TR
  obtain ⟨a0, a1, a2, a3, a4, a5, a6, a7⟩ := vec8 KA.out
  obtain ⟨b0, b1, b2, b3, b4, b5, b6, b7⟩ := vec8 KB.out
  obtain ⟨k0, k1, k2, k3, k4, k5, k6, k7⟩ := vec8 KX.out
  go_wp2_with fail
  refine (CL.out _ _ B3.out (MK.out _ B3.out sc qc HT.out HQ.out)).mono ?_
  rintro e w4 ⟨y, rfl, ho, b⟩
  obtain ⟨yk, ya1, yn1, ym1, ya2, yn2, ym2, ya3, yn3, ym3, ya4, yn4, ym4, ya5, yn5, ym5, yc, ye, rfl⟩ := ho.agg
  have B4 := Lib.hid (below_then B3.out b)
  have hr3 := (Array.getElem?_eq_some_iff.1 KR.out).1
  have KR := Lib.hid (blk_below b KR.out)
  have HO := Lib.hid ho
  have L3 := Lib.hid B3.out.size
  clear ho b a0 a1 a2 a3 a4 a5 a6 a7 b0 b1 b2 b3 b4 b5 b6 b7 k0 k1 k2 k3 k4 k5 k6 k7
  obtain ⟨z0, z1, z2, z3, z4, z5, z6, z7⟩ := vec8 KR.out
  obtain ⟨f0, f1, f2, f3, f4, f5, f6, f7⟩ := free8 KR.out
  go_wp2
  exact vec_endS rfl rfl rfl rfl KR.out ⟨_, rfl, (HO.out.put8 hr3 _ _ _ _ _ _ _ _).wide L3.out (by rw [put8_size]; exact Nat.le_refl _), put8_below B4.out (by omega)⟩
end Go.Proofs.Yteoalkjngkcheaa

/- The reference's copies of vectors. -/
namespace Go.Proofs.Yteoalkjngkcheaa
set_option maxRecDepth 100000
open Go.RowKit
set_option linter.unusedVariables false
theorem RowV.start0 (w : World) (d : Nat) (parts : List Vec) : RowV w (w.alloc (.cells #[] 31)) d parts 0 (.slice (some ⟨w.heap.size, 0, none⟩) 0 0) :=
  ⟨⟨[], [], rfl, rfl, ⟨rfl, .inr ⟨w.heap.size, 0, #[], rfl, Nat.le_refl _, blk_new w _ rfl, Nat.le_refl _, Nat.zero_le _, rfl, rfl⟩⟩, fun i h => absurd h (Nat.not_lt_zero _), List.nodup_nil, fun b h => by cases h⟩, below1 w _⟩
set_option maxHeartbeats 4000000 in
theorem scpStep (d : Nat) (IC : SCV d) : SCP d := by
  refine ⟨fun parts a cap lo hi w hs hhi hsm hall hn => ?_⟩
  have A := Lib.hid (fun (k : Nat) (w1 : World) (hk : k < parts.length) (hb : Below w.heap.size w w1) => (hs.below hb hhi).at_ hk)
  have C := Lib.hid (fun (k : Nat) (w1 : World) (x : Value) (hk : k < parts.length) (hb : Below w.heap.size w w1) (hv : VecAt lo hi w1 d (parts.getD k noV) x) => IC.out _ x lo hi w1 hv (Nat.le_trans hhi hb.size) (hsm k hk) (hall k hk).2 (by have := (hall k hk).1.flat.parts; omega))
  have L := Lib.hid (fun (k : Nat) (w1 : World) (x : Value) (hk : k < parts.length) (hb : Below w.heap.size w w1) (hv : VecAt lo hi w1 d (parts.getD k noV) x) => show Calls Try.prog 47 #[x, .int .i64 3] w1 (fun e w' => e = .returned (.bool true) ∧ Below w1.heap.size w1 w') from ((sIsAll 3 (Nat.le_refl _)).out d _ x lo hi w1 hv (Nat.le_trans hhi hb.size) (hsm k hk)).mono (fun e w' h => by rw [bB_yes (hall k hk).1] at h; exact h))
  have FIN := Lib.hid (fun (wr : World) (v : Value) (h : RowV w wr d parts parts.length v) => h.parts)
  clear hs hsm IC hall
  obtain ⟨n, hn'⟩ : ∃ n, parts.length = n := ⟨_, rfl⟩
  have HNn := Lib.hid hn'
  rw [hn'] at hn A C L FIN ⊢
  clear hn'
  obtain ⟨i0, hi0, hz0, hz1, hz2⟩ := info_parts infoVec8
  go_enter Try.func49, Try.ntmps49
  go_wp2
  go_loopw [3, 4] (fun v i wr => ∃ k : Nat, k ≤ n ∧ i = .int .i64 k ∧ RowV w wr d parts k v) (fun _ i _ => n - (intOf i).toNat)
  case atStart => exact ⟨0, Nat.zero_le _, rfl, RowV.start0 w d parts⟩
  case round =>
    obtain ⟨k, hk, rfl, hr⟩ := hrel
    have RV := Lib.hid hr
    clear hr
    by_cases hlt : k < n
    · have h40 : k ≤ 40 := by omega
      obtain ⟨b, off, p0, p1, p2, p3, p4, p5, p6, p7, rfl, hbB, hv, c0, c1, c2, c3, c4, c5, c6, c7⟩ := A.out _ _ hlt RV.out.below
      have HV := Lib.hid hv
      clear hv
      go_wp2_with fail
      refine (L.out _ _ _ hlt RV.out.below HV.out).mono ?_
      rintro e wi ⟨rfl, hbi⟩
      have RV := Lib.hid (RV.out.keep hbi)
      clear hbi HV c0 c1 c2 c3 c4 c5 c6 c7 hbB
      obtain ⟨b', off', u0, u1, u2, u3, u4, u5, u6, u7, e', hbB, hv, c0, c1, c2, c3, c4, c5, c6, c7⟩ := A.out _ _ hlt RV.out.below
      simp only [Option.some.injEq, Addr.mk.injEq, and_true] at e'
      obtain ⟨rfl, rfl⟩ := e'
      have HV := Lib.hid hv
      clear hv
      go_wp2_with fail
      refine (C.out _ _ _ hlt RV.out.below HV.out).mono ?_
      rintro e w2 ⟨y, rfl, ho, hb⟩
      obtain ⟨yk, ya1, yn1, ym1, ya2, yn2, ym2, ya3, yn3, ym3, ya4, yn4, ym4, ya5, yn5, ym5, yc, ye, rfl⟩ := ho.agg
      have HO := Lib.hid ho
      have BW := Lib.hid hb
      obtain ⟨xs, hxs⟩ := RV.out.row
      have XS := Lib.hid hxs
      have OR := Lib.hid (ownsRow_below (ownsRow_below hxs BW.out) (below1 w2 (.cells #[.int .i64 yk, .slice ya1 yn1 ym1, .slice ya2 yn2 ym2, .slice ya3 yn3 ym3, .slice ya4 yn4 ym4, .slice ya5 yn5 ym5, .int .i64 yc, .int .i64 ye] 31)))
      have S1 := Lib.hid (show w.heap.size ≤ w2.heap.size from (below_then RV.out.below BW.out).size)
      clear ho hb hxs c0 c1 c2 c3 c4 c5 c6 c7
      go_wp2_with (at_builtin; refine wpList_append_own_at _ rfl _ _ 29 rfl w.heap.size 31 i0 _ 8 144 Try.underlying29 hi0 hz0 hz1 hz2 rfl (by decide) _ k xs rfl OR.out ⟨w2.heap.size, 0, none⟩ 1 1 [.int .i64 yk, .slice ya1 yn1 ym1, .slice ya2 yn2 ym2, .slice ya3 yn3 ym3, .slice ya4 yn4 ym4, .slice ya5 yn5 ym5, .int .i64 yc, .int .i64 ye] rfl rfl ?c1 ?c2 ?c3 ?c4 ?c5 ?_)
      case c1 =>
        intro j u hj
        have hlt : j < 8 := by have := (List.getElem?_eq_some_iff.1 hj).1; simpa using this
        rw [addr_add, Nat.zero_add]
        refine cellOf (blk_new w2 _ rfl) ?_
        rw [← hj]
        rcases (show j = 0 ∨ j = 1 ∨ j = 2 ∨ j = 3 ∨ j = 4 ∨ j = 5 ∨ j = 6 ∨ j = 7 by omega) with rfl | rfl | rfl | rfl | rfl | rfl | rfl | rfl <;> rfl
      case c2 => intro u hu; simp only [List.mem_cons, List.not_mem_nil, or_false] at hu; rcases hu with rfl | rfl | rfl | rfl | rfl | rfl | rfl | rfl <;> rfl
      case c3 => unfold maxLen; omega
      case c4 => omega
      case c5 => have := S1.out; simp; omega
      intro v' w3 hown' hgrow _ hwh
      have NX := Lib.hid (RV.out.next HO.out (by simp) BW.out hgrow (fun ys hy => ownsRow_same XS.out hy ▸ hown') (by simpa using hwh))
      clear hown' hgrow hwh
      go_wp2
      go_roundw
      case rel => exact ⟨k + 1, by omega, by go_num, NX.out⟩
      case measure => simp [intOf]; omega
    · obtain rfl : k = n := by omega
      go_wp2
      obtain ⟨F, h1, h2, h3⟩ := FIN.out _ _ RV.out
      go_ret
      exact ⟨_, F, rfl, h1, h2, h3, RV.out.below, by rw [HNn.out]; exact RV.out.row⟩
theorem scvZero : SCV 0 := ⟨fun _ _ _ _ _ h => h.elim⟩
theorem scvAll : ∀ d, SCV d
  | 0 => scvZero
  | d + 1 => scvStep d (scpStep d (scvAll d))
end Go.Proofs.Yteoalkjngkcheaa

/- Parts appended to a vector under way; all parts of a valid vector, however deep, are vectors. -/
namespace Go.Proofs.Yteoalkjngkcheaa
open Go.RowKit
set_option maxRecDepth 100000
set_option linter.unusedVariables false

theorem isV_up : ∀ (n : Nat) (v : Vec), IsV n v → IsV (n + 1) v
  | 0, v, h => ⟨h.1, fun i hi => by have := h.2; omega⟩
  | n + 1, v, h => ⟨h.1, fun i hi => isV_up n _ (h.2 i hi)⟩
theorem isV_three {n : Nat} {v : Vec} (hn : n ≤ 3) (h : IsV n v) : IsV 3 v := by
  rcases (show n = 0 ∨ n = 1 ∨ n = 2 ∨ n = 3 by omega) with rfl | rfl | rfl | rfl
  · exact isV_up _ _ (isV_up _ _ (isV_up _ _ h))
  · exact isV_up _ _ (isV_up _ _ h)
  · exact isV_up _ _ h
  · exact h
theorem allIs_of : ∀ (d n : Nat) (v : Vec), n ≤ 3 → IsV n v → AllIs d v
  | 0, _, _, _, _ => trivial
  | d + 1, 0, v, _, h => fun i hi => by have := h.2; omega
  | d + 1, n + 1, v, hn, h => fun i hi => ⟨isV_three (by omega) (h.2 i hi), allIs_of d n _ (by omega) (h.2 i hi)⟩
section
variable {ops : Array Oper} {Q : Exit → Act → World → Prop} {S : World → Prop} {w0 : World} {L : List (Nat × TypeId × Array Value)}
variable {r : List (Nat × Bool)} {a : Act} {e : List (Nat × Value)} {w : World} {i d : Nat} {g : Option (Nat × Bool)} {v : Value}
end
end Go.Proofs.Yteoalkjngkcheaa

/- Strings of elements, labels that are given: the reference. -/
namespace Go.Proofs.Yteoalkjngkcheaa
open Go.RowKit
set_option maxRecDepth 100000
set_option linter.unusedVariables false

theorem TxZ.wideA {w w2 w4 : World} {l : List ByteArray} {v : Value} (h : TxZ w2 w4 l v) (hb : Below w.heap.size w w2) : TxZ w w4 l v := ⟨row_lo h.row hb.size, below_then hb h.below⟩
theorem TxZ.empty (w : World) : TxZ w (w.alloc (.cells #[] 9)) [] (.slice (some ⟨w.heap.size, 0, none⟩) 0 0) :=
  ⟨⟨rfl, .inr ⟨w.heap.size, 0, #[], rfl, Nat.le_refl _, blk_new w _ rfl, Nat.le_refl _, Nat.zero_le _, rfl, rfl⟩⟩, below1 w _⟩
/-- NULL, or texts of which none is missing. -/
def OkTx (v : Vec) : Prop := kindV v = 0 ∨ (kindV v = 3 ∧ ∀ j, j < (itemsV v).length → (itemsV v).getD j noI ≠ noI)
set_option maxHeartbeats 4000000 in
theorem specStrs (d : Nat) (v : Vec) (val : Value) (lo hi : Nat) (w : World) (hv : VecAt lo hi w d v val) (hhi : hi ≤ w.heap.size) (hsm : Small d v) :
    Calls Try.prog 44 #[val] w fun e w' => ∃ v', e = .returned (.tuple #[v', .bool (bB (OkTx v))]) ∧ TxZ w w' (txL (itemsV v)) v' := by
  obtain ⟨kk, items, parts, names, cls, levels, code, env⟩ := v
  obtain ⟨d', ai, ci, ap, cp, an, cn, ac, cc, al, cl, ed, rfl, hI, hN, hC, hL, hP⟩ := vecAt_open hv
  subst ed
  have hn : items.length ≤ 1048576 := hsm.1
  have AI := Lib.hid (fun (k : Nat) (W : World) (hk : k < items.length) (hb : Below w.heap.size w W) => (hI.below hb hhi).at_ hk)
  have CF := Lib.hid (fun (W : World) (hb : Below w.heap.size w W) => (by exact specFirst items noI ai ci lo hi W (hI.below hb hhi) (Nat.le_trans hhi hb.size) hn : Calls Try.prog 57 #[.slice ai items.length ci, .agg #[.int .i64 0, .int .i64 0, .string ⟨#[]⟩]] W fun e w' => ∃ r, FirstIs items noI r ∧ e = .returned (.int .i64 r) ∧ Below W.heap.size W w'))
  have TS := Lib.hid (fun k (hk : k < items.length) => txL_take hk)
  have EN := Lib.hid (show txL (items.take items.length) = txL items by rw [List.take_length])
  have LE := Lib.hid (fun k => (by rw [txL_len, List.length_take]; omega : (txL (items.take k)).length ≤ items.length))
  have OT := Lib.hid (show OkTx (.mk kk items parts names cls levels code env) ↔ (kk = 0 ∨ (kk = 3 ∧ ∀ j, j < items.length → items.getD j noI ≠ noI)) from Iff.rfl)
  obtain ⟨b, hb⟩ : ∃ b, bB (OkTx (.mk kk items parts names cls levels code env)) = b := ⟨_, rfl⟩
  have OB := Lib.hid (show (OkTx (.mk kk items parts names cls levels code env) → true = b) ∧ (¬ OkTx (.mk kk items parts names cls levels code env) → false = b) from ⟨fun h => by rw [← hb, bB_yes h], fun h => by rw [← hb, bB_no h]⟩)
  rw [OT.out] at OB
  show Calls _ _ _ _ (fun e w' => ∃ v', e = .returned (.tuple #[v', .bool (bB (OkTx (.mk kk items parts names cls levels code env)))]) ∧ TxZ w w' (txL items) v')
  rw [hb]
  have MI := Lib.hid (fun r (h : FirstIs items noI r) (hr : r < 0) => h.miss hr)
  have HI := Lib.hid (fun r (h : FirstIs items noI r) (hr : ¬ r < 0) => h.hit hr)
  obtain ⟨n, hn'⟩ : ∃ n, items.length = n := ⟨_, rfl⟩
  rw [hn'] at AI TS EN LE CF OB MI HI hn ⊢
  clear hI hN hC hL hP hsm hn' hv hb OT
  go_enter Try.func44, Try.ntmps44
  go_upto_region 1 with (fail)
  obtain ⟨w1, hw1⟩ : ∃ W, w.alloc (.cells #[.int .i64 kk, .slice ai n ci, .slice ap parts.length cp, .slice an names.length cn, .slice ac cls.length cc, .slice al levels.length cl, .int .i64 code, .int .i64 env] 31) = W := ⟨_, rfl⟩
  have B1 := Lib.hid (show Below w.heap.size w w1 from hw1 ▸ (below1 w _))
  have KA := Lib.hid (show w1.heap[w.heap.size]? = some (.cells #[.int .i64 kk, .slice ai n ci, .slice ap parts.length cp, .slice an names.length cn, .slice ac cls.length cc, .slice al levels.length cl, .int .i64 code, .int .i64 env] 31 (0, 0)) from hw1 ▸ blk_new w _ rfl)
  have Z1 := Lib.hid (show w1.heap.size = w.heap.size + 1 from hw1 ▸ (by simp))
  rw [hw1]
  clear hw1
  have ST := Lib.hid (TxZ.empty w1)
  go_wp2
  go_loopw [4, 5] (fun v i wr => ∃ k : Nat, k ≤ n ∧ i = .int .i64 k ∧ TxZ w1 wr (txL (items.take k)) v) (fun _ i _ => n - (intOf i).toNat)
  case atStart => exact ⟨0, Nat.zero_le _, rfl, ST.out⟩
  case round =>
    obtain ⟨k, hk, rfl, hir⟩ := hrel
    have IR := Lib.hid hir
    have KW := Lib.hid (blk_below hir.below KA.out)
    have BW := Lib.hid (below_then B1.out hir.below)
    clear hir
    obtain ⟨k0, k1, k2, k3, k4, k5, k6, k7⟩ := vec8 KW.out
    by_cases hlt : k < n
    · obtain ⟨ba, off, rfl, hbB, c0, c1, c2'⟩ := AI.out k wr hlt BW.out
      have c2 : wr.cell? ⟨ba, off + k * 3 + 2, none⟩ = some (.string (items.getD k noI).t) := c2'
      have LN := Lib.hid (show (txL (items.take k)).length ≤ 1048576 by have := LE.out k; omega)
      have NX := Lib.hid (TS.out k hlt)
      obtain ⟨x, hx⟩ : ∃ x, items.getD k noI = x := ⟨_, rfl⟩
      rw [hx] at c0 c1 c2 NX
      clear hx c2'
      go_wp2_with (at_builtin; go_loud (refine wpList_appTx rfl _ _ rfl x.t (txL (items.take k)) _ _ rfl rfl (IR.out.keep (below1 _ _)) (blk_new _ _ rfl) LN.out ?_))
      intro v' w3 hir
      have IN := Lib.hid (NX.out ▸ hir)
      clear hir
      go_wp2
      go_roundw
      case rel => exact ⟨k + 1, by omega, by go_num, IN.out⟩
      case measure => simp [intOf]; omega
    · obtain rfl : k = n := by omega
      have IZ := Lib.hid (by have h := IR.out.wideA B1.out; rw [EN.out] at h; exact h)
      by_cases h0 : kk = 0
      · have XX := Lib.hid (OB.out.1 (.inl h0))
        subst h0
        go_wp2
        go_ret2
        exact ⟨_, by rw [← XX.out]; rfl, IZ.out⟩
      · have h0b : (kk == 0) = false := beq_eq_false_iff_ne.2 h0
        by_cases h3 : kk = 3
        · subst h3
          go_wp2_with fail
          with_reducible refine (CF.out _ BW.out).mono ?_
          rintro e w4 ⟨r, hf, rfl, b'⟩
          have IZ := Lib.hid (IZ.out.keep b')
          by_cases hr : r < 0
          · have XX := Lib.hid (OB.out.1 (.inr ⟨by first | rfl | trivial, MI.out r hf (by omega)⟩))
            clear hf b' k0 k1 k2 k3 k4 k5 k6 k7
            go_wp2
            go_ret2
            exact ⟨_, by rw [← XX.out]; rfl, IZ.out⟩
          · have XX := Lib.hid (OB.out.2 (fun h => by
              obtain ⟨j, h1, h2⟩ := HI.out r hf (by omega)
              rcases h with h | ⟨_, h⟩
              · exact absurd h (by decide)
              · exact h j h1 h2))
            clear hf b' k0 k1 k2 k3 k4 k5 k6 k7
            go_wp2
            go_ret2
            exact ⟨_, by rw [← XX.out]; first | rfl | (show Ending.returned (.tuple #[_, .bool (decide (r < 0))]) = _; rw [decide_eq_false (by omega)]; rfl), IZ.out⟩
        · have h3b : (kk == 3) = false := beq_eq_false_iff_ne.2 h3
          have XX := Lib.hid (OB.out.2 (fun h => by rcases h with h | ⟨h, _⟩; exact h0 h; exact h3 h))
          go_wp2
          go_ret2
          exact ⟨_, by rw [← XX.out]; rfl, IZ.out⟩
theorem small_sClass {d d2 : Nat} {v u : Vec} (h : Small (d + 1) v) (hu : Small d2 u) : Small (d + 1) (setC v (txL (itemsV u))) := by
  obtain ⟨kk, items, parts, names, cls, levels, code, env⟩ := v
  obtain ⟨uk, ui, up, un, uc, ul, uco, ue⟩ := u
  cases d2 with
  | zero => exact hu.elim
  | succ d2 =>
    obtain ⟨h1, h2, h3, h4, h5, h6, h7, h8, h9, h10⟩ := h
    have hc : (txL ui).length ≤ 1048576 := by rw [txL_len]; exact hu.1
    have hs : ∀ s ∈ txL ui, s.size ≤ 1048576 := fun s hs => by obtain ⟨x, hx, rfl⟩ := txL_mem hs; exact hu.2.2.2.2.2.1 x hx
    show Small (d + 1) (.mk kk items parts names (txL ui) levels code env)
    unfold Small
    exact ⟨h1, h2, h3, hc, h5, h6, h7, hs, h9, h10⟩
set_option maxHeartbeats 4000000 in
theorem specAssignClass (d d2 : Nat) (v u : Vec) (val valu : Value) (lo hi : Nat) (w : World) (hv : VecAt lo hi w d v val) (hu : VecAt lo hi w d2 u valu) (hhi : hi ≤ w.heap.size) (hsm : Small d v) (hsu : Small d2 u) :
    Calls Try.prog 13 #[val, valu] w (ResVS d (lbV (setC v (txL (itemsV u))) u v) (lbS clsB (setC v (txL (itemsV u))) u v) w) := by
  have C1 := Lib.hid (fun (W : World) (hb : Below w.heap.size w W) => specIsVector d v val lo hi W (hv.below hb hhi) (Nat.le_trans hhi hb.size) hsm)
  have C2 := Lib.hid (fun (W : World) (hb : Below w.heap.size w W) => specIsVector d2 u valu lo hi W (hu.below hb hhi) (Nat.le_trans hhi hb.size) hsu)
  have CC := Lib.hid (fun (h : ValidV v) (W : World) (hb : Below w.heap.size w W) => (scvAll d).out v val lo hi W (hv.below hb hhi) (Nat.le_trans hhi hb.size) hsm (allIs_of d 3 v (Nat.le_refl _) h.1) (by have := h.1.flat.parts; omega))
  have CT := Lib.hid (fun (W : World) (hb : Below w.heap.size w W) => specStrs d2 u valu lo hi W (hu.below hb hhi) (Nat.le_trans hhi hb.size) hsu)
  obtain ⟨d', ed⟩ : ∃ d', d = d' + 1 := by
    cases v with
    | mk kk items parts names cls levels code env => obtain ⟨d', ai, ci, ap, cp, an, cn, ac, cc, al, cl, ed, _⟩ := vecAt_open hv; exact ⟨d', ed⟩
  subst ed
  have SX := small_sClass hsm hsu
  have CX := Lib.hid (fun (W : World) (x : Value) (hx : VecAt 0 W.heap.size W (d' + 1) (setC v (txL (itemsV u))) x) => specIsVector (d' + 1) (setC v (txL (itemsV u))) x 0 W.heap.size W hx (Nat.le_refl _) SX)
  have KN := Lib.hid (fun h => cls_known (v := v) (w := u) h)
  have XB := Lib.hid (fun h => lb_bad (p := clsB) (x := setC v (txL (itemsV u))) (w := u) (v := v) h)
  have XN := Lib.hid (fun h h1 => lb_no (p := clsB) (x := setC v (txL (itemsV u))) (w := u) (v := v) h h1)
  have XY := Lib.hid (fun h h1 => lb_yes (p := clsB) (x := setC v (txL (itemsV u))) (w := u) (v := v) h h1)
  have XO := Lib.hid (show OkTx u ∨ ¬ (TxK u ∧ ValidV (setC v (txL (itemsV u)))) from Classical.byCases (fun h => .inl h) (fun h => .inr (fun h1 => h (h1.1.elim (fun e => .inr ⟨e, KN.out h1.2⟩) (fun e => .inl e)))))
  have XT := Lib.hid (show OkTx u → TxK u from fun h => h.elim (fun e => .inr e) (fun e => .inl e.1))
  obtain ⟨EV, hEV⟩ : ∃ y, lbV (setC v (txL (itemsV u))) u v = y := ⟨_, rfl⟩
  obtain ⟨ES, hES⟩ : ∃ y, lbS clsB (setC v (txL (itemsV u))) u v = y := ⟨_, rfl⟩
  rw [hEV, hES] at XB XN XY ⊢
  have SO := Lib.hid (fun (T : List ByteArray) (y : Value) (lo' hi' : Nat) (W : World) (hh : (txL (itemsV u)) = T) (h : Own (d' + 1) (setC v (txL (itemsV u))) y lo' hi' W) => h)
  obtain ⟨vk, va1, vn1, vm1, va2, vn2, vm2, va3, vn3, vm3, va4, vn4, vm4, va5, vn5, vm5, vc, ve, rfl⟩ := hv.agg
  obtain ⟨uk, ua1, un1, um1, ua2, un2, um2, ua3, un3, um3, ua4, un4, um4, ua5, un5, um5, uc, ue, rfl⟩ := hu.agg
  obtain ⟨T, hT⟩ : ∃ T, (txL (itemsV u)) = T := ⟨_, rfl⟩
  obtain ⟨X, hX⟩ : ∃ X, setC v (txL (itemsV u)) = X := ⟨_, rfl⟩
  have EX := Lib.hid (show setC v T = X by rw [← hT]; exact hX)
  rw [hX] at CX XN XY XO
  rw [hT] at CT
  clear hv hu hhi hsm hsu hEV hES SX KN hT hX SO
  go_enter Try.func13, Try.ntmps13
  go_wp2_with fail
  obtain ⟨w1, hw1⟩ : ∃ W, ((w.alloc (.cells #[.int .i64 vk, .slice va1 vn1 vm1, .slice va2 vn2 vm2, .slice va3 vn3 vm3, .slice va4 vn4 vm4, .slice va5 vn5 vm5, .int .i64 vc, .int .i64 ve] 31)).alloc (.cells #[.int .i64 uk, .slice ua1 un1 um1, .slice ua2 un2 um2, .slice ua3 un3 um3, .slice ua4 un4 um4, .slice ua5 un5 um5, .int .i64 uc, .int .i64 ue] 31)).alloc (.cells #[.int .i64 0, .slice none 0 0, .slice none 0 0, .slice none 0 0, .slice none 0 0, .slice none 0 0, .int .i64 0, .int .i64 0] 31) = W := ⟨_, rfl⟩
  have hs1 : (w.alloc (.cells #[.int .i64 vk, .slice va1 vn1 vm1, .slice va2 vn2 vm2, .slice va3 vn3 vm3, .slice va4 vn4 vm4, .slice va5 vn5 vm5, .int .i64 vc, .int .i64 ve] 31)).heap.size = w.heap.size + 1 := by simp
  have hs2 : ((w.alloc (.cells #[.int .i64 vk, .slice va1 vn1 vm1, .slice va2 vn2 vm2, .slice va3 vn3 vm3, .slice va4 vn4 vm4, .slice va5 vn5 vm5, .int .i64 vc, .int .i64 ve] 31)).alloc (.cells #[.int .i64 uk, .slice ua1 un1 um1, .slice ua2 un2 um2, .slice ua3 un3 um3, .slice ua4 un4 um4, .slice ua5 un5 um5, .int .i64 uc, .int .i64 ue] 31)).heap.size = w.heap.size + 1 + 1 := by simp
  have B1 := Lib.hid (show Below w.heap.size w w1 from hw1 ▸ (((below1 w _).alloc (by simp) _).alloc (by simp; omega) _))
  have KA := Lib.hid (show w1.heap[w.heap.size]? = some (.cells #[.int .i64 vk, .slice va1 vn1 vm1, .slice va2 vn2 vm2, .slice va3 vn3 vm3, .slice va4 vn4 vm4, .slice va5 vn5 vm5, .int .i64 vc, .int .i64 ve] 31 (0, 0)) from hw1 ▸ blk_old (blk_old (blk_new w _ rfl)))
  have KB := Lib.hid (show w1.heap[(w.heap.size + 1)]? = some (.cells #[.int .i64 uk, .slice ua1 un1 um1, .slice ua2 un2 um2, .slice ua3 un3 um3, .slice ua4 un4 um4, .slice ua5 un5 um5, .int .i64 uc, .int .i64 ue] 31 (0, 0)) from hw1 ▸ blk_old (hs1 ▸ blk_new (w.alloc (.cells #[.int .i64 vk, .slice va1 vn1 vm1, .slice va2 vn2 vm2, .slice va3 vn3 vm3, .slice va4 vn4 vm4, .slice va5 vn5 vm5, .int .i64 vc, .int .i64 ve] 31)) (.cells #[.int .i64 uk, .slice ua1 un1 um1, .slice ua2 un2 um2, .slice ua3 un3 um3, .slice ua4 un4 um4, .slice ua5 un5 um5, .int .i64 uc, .int .i64 ue] 31) rfl))
  have KR := Lib.hid (show w1.heap[(w.heap.size + 1 + 1)]? = some (.cells #[.int .i64 0, .slice none 0 0, .slice none 0 0, .slice none 0 0, .slice none 0 0, .slice none 0 0, .int .i64 0, .int .i64 0] 31 (0, 0)) from hw1 ▸ hs2 ▸ blk_new ((w.alloc (.cells #[.int .i64 vk, .slice va1 vn1 vm1, .slice va2 vn2 vm2, .slice va3 vn3 vm3, .slice va4 vn4 vm4, .slice va5 vn5 vm5, .int .i64 vc, .int .i64 ve] 31)).alloc (.cells #[.int .i64 uk, .slice ua1 un1 um1, .slice ua2 un2 um2, .slice ua3 un3 um3, .slice ua4 un4 um4, .slice ua5 un5 um5, .int .i64 uc, .int .i64 ue] 31)) (.cells #[.int .i64 0, .slice none 0 0, .slice none 0 0, .slice none 0 0, .slice none 0 0, .slice none 0 0, .int .i64 0, .int .i64 0] 31) rfl)
  have Z1 := Lib.hid (show w1.heap.size = w.heap.size + 1 + 1 + 1 from hw1 ▸ (by simp))
  rw [hw1]
  clear hw1 hs1 hs2
  with_reducible refine (C1.out _ B1.out).mono ?_
  rintro e w2 ⟨rfl, b⟩
  have B2 := Lib.hid (below_then B1.out b)
  have KA := Lib.hid (blk_below b KA.out)
  have KB := Lib.hid (blk_below b KB.out)
  have KR := Lib.hid (blk_below b KR.out)
  clear b C1
  by_cases qv : ValidV v
  · rw [bB_yes qv]
    obtain ⟨k0, k1, k2, k3, k4, k5, k6, k7⟩ := vec8 KB.out
    go_wp2_with fail
    with_reducible refine (C2.out _ B2.out).mono ?_
    rintro e w3 ⟨rfl, b⟩
    have B3 := Lib.hid (below_then B2.out b)
    have KA := Lib.hid (blk_below b KA.out)
    have KB := Lib.hid (blk_below b KB.out)
    have KR := Lib.hid (blk_below b KR.out)
    clear b C2 k0 k1 k2 k3 k4 k5 k6 k7
    by_cases qu : ValidV u
    · have XN := Lib.hid (fun h1 => XN.out ⟨qv, qu⟩ h1)
      have XY := Lib.hid (fun h1 => XY.out ⟨qv, qu⟩ h1)
      have CC := Lib.hid (CC.out qv)
      rw [bB_yes qu]
      clear qv qu XB
      obtain ⟨k0, k1, k2, k3, k4, k5, k6, k7⟩ := vec8 KA.out
      go_wp2_with fail
      refine (CC.out _ B3.out).mono ?_
      rintro e w4 ⟨y, rfl, ho, b⟩
      obtain ⟨yk, ya1, yn1, ym1, ya2, yn2, ym2, ya3, yn3, ym3, ya4, yn4, ym4, ya5, yn5, ym5, yc, ye, rfl⟩ := ho.agg
      have L3 := Lib.hid B3.out.size
      have hr3 := (Array.getElem?_eq_some_iff.1 KR.out).1
      have B4 := Lib.hid (below_then B3.out b)
      have HO := Lib.hid ho
      have S4 := Lib.hid b.size
      have KB := Lib.hid (blk_below b KB.out)
      have KR := Lib.hid (blk_below b KR.out)
      clear b ho k0 k1 k2 k3 k4 k5 k6 k7 CC KA
      obtain ⟨k0, k1, k2, k3, k4, k5, k6, k7⟩ := vec8 KB.out
      have hltB := (Array.getElem?_eq_some_iff.1 KB.out).1
      go_wp2_with fail
      clear k0 k1 k2 k3 k4 k5 k6 k7 hltB
      obtain ⟨w5, hw5⟩ : ∃ W, w4.alloc (.cells #[.int .i64 yk, .slice ya1 yn1 ym1, .slice ya2 yn2 ym2, .slice ya3 yn3 ym3, .slice ya4 yn4 ym4, .slice ya5 yn5 ym5, .int .i64 yc, .int .i64 ye] 31) = W := ⟨_, rfl⟩
      have KX := Lib.hid (show w5.heap[w4.heap.size]? = some (.cells #[.int .i64 yk, .slice ya1 yn1 ym1, .slice ya2 yn2 ym2, .slice ya3 yn3 ym3, .slice ya4 yn4 ym4, .slice ya5 yn5 ym5, .int .i64 yc, .int .i64 ye] 31 (0, 0)) from hw5 ▸ blk_new w4 _ rfl)
      have KR := Lib.hid (show w5.heap[(w.heap.size + 1 + 1)]? = some (.cells #[.int .i64 0, .slice none 0 0, .slice none 0 0, .slice none 0 0, .slice none 0 0, .slice none 0 0, .int .i64 0, .int .i64 0] 31 (0, 0)) from hw5 ▸ blk_old KR.out)
      have B5 := Lib.hid (show Below w.heap.size w w5 from hw5 ▸ B4.out.alloc B4.out.size _)
      have HO := Lib.hid (show Own (d' + 1) v (.agg #[.int .i64 yk, .slice ya1 yn1 ym1, .slice ya2 yn2 ym2, .slice ya3 yn3 ym3, .slice ya4 yn4 ym4, .slice ya5 yn5 ym5, .int .i64 yc, .int .i64 ye]) w3.heap.size w4.heap.size w5 from hw5 ▸ HO.out.below (below1 w4 _) (Nat.le_refl _))
      have S5 := Lib.hid (show w5.heap.size = w4.heap.size + 1 from hw5 ▸ (by simp))
      rw [hw5]
      clear hw5
      obtain ⟨bx, hbx⟩ : ∃ b, w4.heap.size = b := ⟨_, rfl⟩
      rw [hbx] at KX HO S5 S4 ⊢
      clear hbx B4
      refine (CT.out _ B5.out).mono ?_
      rintro e w6 ⟨v6, rfl, tz⟩
      obtain ⟨sc, qc, Fc, rfl, _, _, _, hqc⟩ := txs_of_row tz.row
      have B6 := Lib.hid (below_then B5.out tz.below)
      have KX := Lib.hid (blk_below tz.below KX.out)
      have KR := Lib.hid (blk_below tz.below KR.out)
      have HO := Lib.hid (HO.out.below tz.below (by have := S5.out; omega))
      have TR := Lib.hid tz.row
      have hbw := (Array.getElem?_eq_some_iff.1 KX.out).1
      have hr6 := hr3
      clear tz hqc CT
      obtain ⟨k0, k1, k2, k3, k4, k5, k6, k7⟩ := vec8 KX.out
      obtain ⟨g0, g1, g2, g3, g4, g5, g6, g7⟩ := free8 KX.out
      go_upto_region 6 with (fail)
      clear k0 k1 k2 k3 k4 k5 k6 k7 g0 g1 g2 g3 g4 g5 g6 g7 hbw
      obtain ⟨w7, hw⟩ : ∃ W, w6.setCell ⟨bx, 4, none⟩ (.slice sc T.length qc) = W := ⟨_, rfl⟩
      have KX := Lib.hid (show w7.heap[bx]? = some (.cells #[.int .i64 yk, .slice ya1 yn1 ym1, .slice ya2 yn2 ym2, .slice ya3 yn3 ym3, .slice sc T.length qc, .slice ya5 yn5 ym5, .int .i64 yc, .int .i64 ye] 31 (0, 0)) from hw ▸ Joins.block_setCell KX.out _)
      have KR := Lib.hid (show w7.heap[(w.heap.size + 1 + 1)]? = some (.cells #[.int .i64 0, .slice none 0 0, .slice none 0 0, .slice none 0 0, .slice none 0 0, .slice none 0 0, .int .i64 0, .int .i64 0] 31 (0, 0)) from hw ▸ (Below.heap_setCell _ _ _ _ (show (w.heap.size + 1 + 1) ≠ bx by have := S4.out; omega)).trans KR.out)
      have B7 := Lib.hid (show Below w.heap.size w w7 from hw ▸ B6.out.setCell (p := ⟨bx, 4, none⟩) (show w.heap.size ≤ bx by have := S4.out; have := L3.out; omega) _)
      have HO := Lib.hid (show Own (d' + 1) v (.agg #[.int .i64 yk, .slice ya1 yn1 ym1, .slice ya2 yn2 ym2, .slice ya3 yn3 ym3, .slice ya4 yn4 ym4, .slice ya5 yn5 ym5, .int .i64 yc, .int .i64 ye]) w3.heap.size bx w7 from hw ▸ HO.out.setOut (Nat.le_refl _))
      have TR := Lib.hid (ownsRow_kept TR.out (w' := w7) (fun g hg => hw ▸ Below.heap_setCell _ _ _ _ (show g ≠ bx by have h1 := (TR.out.lt g hg).1; rw [S5.out] at h1; omega)))
      have S7 := Lib.hid (show w7.heap.size = w6.heap.size from hw ▸ (by simp))
      rw [hw]
      clear hw
      obtain ⟨sc', qc', Fc', e, hot, hnd, hrg, hqc⟩ := txs_of_row TR.out
      cases e
      have HX := Lib.hid (show Own (d' + 1) X (.agg #[.int .i64 yk, .slice ya1 yn1 ym1, .slice ya2 yn2 ym2, .slice ya3 yn3 ym3, .slice sc T.length qc, .slice ya5 yn5 ym5, .int .i64 yc, .int .i64 ye]) w3.heap.size w7.heap.size w7 from by
        have h := HO.out
        rw [← EX.out]
        cases v with
        | mk kk items parts names cls levels code env => exact Own.setC h hot hnd hrg hqc (by rw [S5.out]; omega) (by rw [S5.out]; have := S4.out; omega) (by have := S5.out; have := (Array.getElem?_eq_some_iff.1 KX.out).1; omega))
      clear hot hnd hrg hqc HO TR
      by_cases qo : OkTx u
      · rw [bB_yes qo]
        obtain ⟨k0, k1, k2, k3, k4, k5, k6, k7⟩ := vec8 KX.out
        go_wp2_with fail
        with_reducible refine (CX.out _ _ (HX.out.vat (Nat.le_refl _))).mono ?_
        rintro e w8 ⟨rfl, b⟩
        have B8 := Lib.hid (below_then B7.out b)
        have HX := Lib.hid (HX.out.below b (Nat.le_refl _))
        have S8' := Lib.hid b.size
        have KX := Lib.hid (blk_below b KX.out)
        have KR := Lib.hid (blk_below b KR.out)
        clear b k0 k1 k2 k3 k4 k5 k6 k7
        by_cases qx : ValidV X
        · have XX := Lib.hid (XY.out ⟨XT.out qo, qx⟩)
          rw [bB_yes qx]
          clear qo qx XN XY XO XT
          obtain ⟨k0, k1, k2, k3, k4, k5, k6, k7⟩ := vec8 KX.out
          obtain ⟨z0, z1, z2, z3, z4, z5, z6, z7⟩ := vec8 KR.out
          obtain ⟨f0, f1, f2, f3, f4, f5, f6, f7⟩ := free8 KR.out
          go_wp2
          rw [XX.out.1, XX.out.2]
          exact vec_endS rfl rfl rfl rfl KR.out ⟨_, rfl, (HX.out.put8 hr6 _ _ _ _ _ _ _ _).wide L3.out (by rw [put8_size]; exact S8'.out), put8_below B8.out (by omega)⟩
        · have XX := Lib.hid (XN.out (fun h => qx h.2))
          rw [bB_no qx]
          clear qo qx XN XY XO XT
          obtain ⟨z0, z1, z2, z3, z4, z5, z6, z7⟩ := vec8 KR.out
          obtain ⟨f0, f1, f2, f3, f4, f5, f6, f7⟩ := free8 KR.out
          go_wp2
          rw [XX.out.1, XX.out.2]
          exact vec_endS rfl rfl rfl rfl KR.out (zeroSA _ _ w _ (put8_below B8.out (by omega)))
      · have XX := Lib.hid (XN.out (XO.out.resolve_left qo))
        rw [bB_no qo]
        clear qo XN XY XO XT
        obtain ⟨z0, z1, z2, z3, z4, z5, z6, z7⟩ := vec8 KR.out
        obtain ⟨f0, f1, f2, f3, f4, f5, f6, f7⟩ := free8 KR.out
        go_wp2
        rw [XX.out.1, XX.out.2]
        exact vec_endS rfl rfl rfl rfl KR.out (zeroSA _ _ w _ (put8_below B7.out (by omega)))
    · have XX := Lib.hid (XB.out (fun h => qu h.2))
      rw [bB_no qu]
      clear qv qu XB XN XY XO XT
      go_wp2_with fail
      with_reducible refine (specBad _).mono ?_
      rintro e w4 ⟨rfl, b⟩
      have B4 := Lib.hid (below_then B3.out b)
      have KR := Lib.hid (blk_below b KR.out)
      clear b
      obtain ⟨z0, z1, z2, z3, z4, z5, z6, z7⟩ := vec8 KR.out
      obtain ⟨f0, f1, f2, f3, f4, f5, f6, f7⟩ := free8 KR.out
      go_wp2
      rw [XX.out.1, XX.out.2]
      exact vec_endS rfl rfl rfl rfl KR.out (zeroSA _ _ w _ (put8_below B4.out (by omega)))
  · have XX := Lib.hid (XB.out (fun h => qv h.1))
    rw [bB_no qv]
    clear qv XB XN XY XO XT
    go_wp2_with fail
    with_reducible refine (specBad _).mono ?_
    rintro e w3 ⟨rfl, b⟩
    have B3 := Lib.hid (below_then B2.out b)
    have KR := Lib.hid (blk_below b KR.out)
    clear b
    obtain ⟨z0, z1, z2, z3, z4, z5, z6, z7⟩ := vec8 KR.out
    obtain ⟨f0, f1, f2, f3, f4, f5, f6, f7⟩ := free8 KR.out
    go_wp2
    rw [XX.out.1, XX.out.2]
    exact vec_endS rfl rfl rfl rfl KR.out (zeroSA _ _ w _ (put8_below B3.out (by omega)))
theorem small_sLevels {d d2 : Nat} {v u : Vec} (h : Small (d + 1) v) (hu : Small d2 u) : Small (d + 1) (setL v (txL (itemsV u))) := by
  obtain ⟨kk, items, parts, names, cls, levels, code, env⟩ := v
  obtain ⟨uk, ui, up, un, uc, ul, uco, ue⟩ := u
  cases d2 with
  | zero => exact hu.elim
  | succ d2 =>
    obtain ⟨h1, h2, h3, h4, h5, h6, h7, h8, h9, h10⟩ := h
    have hc : (txL ui).length ≤ 1048576 := by rw [txL_len]; exact hu.1
    have hs : ∀ s ∈ txL ui, s.size ≤ 1048576 := fun s hs => by obtain ⟨x, hx, rfl⟩ := txL_mem hs; exact hu.2.2.2.2.2.1 x hx
    show Small (d + 1) (.mk kk items parts names cls (txL ui) code env)
    unfold Small
    exact ⟨h1, h2, h3, h4, hc, h6, h7, h8, hs, h10⟩
set_option maxHeartbeats 4000000 in
theorem specAssignLevels (d d2 : Nat) (v u : Vec) (val valu : Value) (lo hi : Nat) (w : World) (hv : VecAt lo hi w d v val) (hu : VecAt lo hi w d2 u valu) (hhi : hi ≤ w.heap.size) (hsm : Small d v) (hsu : Small d2 u) :
    Calls Try.prog 15 #[val, valu] w (ResVS d (lbV (setL v (txL (itemsV u))) u v) (lbS levB (setL v (txL (itemsV u))) u v) w) := by
  have C1 := Lib.hid (fun (W : World) (hb : Below w.heap.size w W) => specIsVector d v val lo hi W (hv.below hb hhi) (Nat.le_trans hhi hb.size) hsm)
  have C2 := Lib.hid (fun (W : World) (hb : Below w.heap.size w W) => specIsVector d2 u valu lo hi W (hu.below hb hhi) (Nat.le_trans hhi hb.size) hsu)
  have CC := Lib.hid (fun (h : ValidV v) (W : World) (hb : Below w.heap.size w W) => (scvAll d).out v val lo hi W (hv.below hb hhi) (Nat.le_trans hhi hb.size) hsm (allIs_of d 3 v (Nat.le_refl _) h.1) (by have := h.1.flat.parts; omega))
  have CT := Lib.hid (fun (W : World) (hb : Below w.heap.size w W) => specStrs d2 u valu lo hi W (hu.below hb hhi) (Nat.le_trans hhi hb.size) hsu)
  obtain ⟨d', ed⟩ : ∃ d', d = d' + 1 := by
    cases v with
    | mk kk items parts names cls levels code env => obtain ⟨d', ai, ci, ap, cp, an, cn, ac, cc, al, cl, ed, _⟩ := vecAt_open hv; exact ⟨d', ed⟩
  subst ed
  have SX := small_sLevels hsm hsu
  have CX := Lib.hid (fun (W : World) (x : Value) (hx : VecAt 0 W.heap.size W (d' + 1) (setL v (txL (itemsV u))) x) => specIsVector (d' + 1) (setL v (txL (itemsV u))) x 0 W.heap.size W hx (Nat.le_refl _) SX)
  have KN := Lib.hid (fun h => lev_known (v := v) (w := u) h)
  have XB := Lib.hid (fun h => lb_bad (p := levB) (x := setL v (txL (itemsV u))) (w := u) (v := v) h)
  have XN := Lib.hid (fun h h1 => lb_no (p := levB) (x := setL v (txL (itemsV u))) (w := u) (v := v) h h1)
  have XY := Lib.hid (fun h h1 => lb_yes (p := levB) (x := setL v (txL (itemsV u))) (w := u) (v := v) h h1)
  have XO := Lib.hid (show OkTx u ∨ ¬ (TxK u ∧ ValidV (setL v (txL (itemsV u)))) from Classical.byCases (fun h => .inl h) (fun h => .inr (fun h1 => h (h1.1.elim (fun e => .inr ⟨e, KN.out h1.2⟩) (fun e => .inl e)))))
  have XT := Lib.hid (show OkTx u → TxK u from fun h => h.elim (fun e => .inr e) (fun e => .inl e.1))
  obtain ⟨EV, hEV⟩ : ∃ y, lbV (setL v (txL (itemsV u))) u v = y := ⟨_, rfl⟩
  obtain ⟨ES, hES⟩ : ∃ y, lbS levB (setL v (txL (itemsV u))) u v = y := ⟨_, rfl⟩
  rw [hEV, hES] at XB XN XY ⊢
  have SO := Lib.hid (fun (T : List ByteArray) (y : Value) (lo' hi' : Nat) (W : World) (hh : (txL (itemsV u)) = T) (h : Own (d' + 1) (setL v (txL (itemsV u))) y lo' hi' W) => h)
  obtain ⟨vk, va1, vn1, vm1, va2, vn2, vm2, va3, vn3, vm3, va4, vn4, vm4, va5, vn5, vm5, vc, ve, rfl⟩ := hv.agg
  obtain ⟨uk, ua1, un1, um1, ua2, un2, um2, ua3, un3, um3, ua4, un4, um4, ua5, un5, um5, uc, ue, rfl⟩ := hu.agg
  obtain ⟨T, hT⟩ : ∃ T, (txL (itemsV u)) = T := ⟨_, rfl⟩
  obtain ⟨X, hX⟩ : ∃ X, setL v (txL (itemsV u)) = X := ⟨_, rfl⟩
  have EX := Lib.hid (show setL v T = X by rw [← hT]; exact hX)
  rw [hX] at CX XN XY XO
  rw [hT] at CT
  clear hv hu hhi hsm hsu hEV hES SX KN hT hX SO
  go_enter Try.func15, Try.ntmps15
  go_wp2_with fail
  obtain ⟨w1, hw1⟩ : ∃ W, ((w.alloc (.cells #[.int .i64 vk, .slice va1 vn1 vm1, .slice va2 vn2 vm2, .slice va3 vn3 vm3, .slice va4 vn4 vm4, .slice va5 vn5 vm5, .int .i64 vc, .int .i64 ve] 31)).alloc (.cells #[.int .i64 uk, .slice ua1 un1 um1, .slice ua2 un2 um2, .slice ua3 un3 um3, .slice ua4 un4 um4, .slice ua5 un5 um5, .int .i64 uc, .int .i64 ue] 31)).alloc (.cells #[.int .i64 0, .slice none 0 0, .slice none 0 0, .slice none 0 0, .slice none 0 0, .slice none 0 0, .int .i64 0, .int .i64 0] 31) = W := ⟨_, rfl⟩
  have hs1 : (w.alloc (.cells #[.int .i64 vk, .slice va1 vn1 vm1, .slice va2 vn2 vm2, .slice va3 vn3 vm3, .slice va4 vn4 vm4, .slice va5 vn5 vm5, .int .i64 vc, .int .i64 ve] 31)).heap.size = w.heap.size + 1 := by simp
  have hs2 : ((w.alloc (.cells #[.int .i64 vk, .slice va1 vn1 vm1, .slice va2 vn2 vm2, .slice va3 vn3 vm3, .slice va4 vn4 vm4, .slice va5 vn5 vm5, .int .i64 vc, .int .i64 ve] 31)).alloc (.cells #[.int .i64 uk, .slice ua1 un1 um1, .slice ua2 un2 um2, .slice ua3 un3 um3, .slice ua4 un4 um4, .slice ua5 un5 um5, .int .i64 uc, .int .i64 ue] 31)).heap.size = w.heap.size + 1 + 1 := by simp
  have B1 := Lib.hid (show Below w.heap.size w w1 from hw1 ▸ (((below1 w _).alloc (by simp) _).alloc (by simp; omega) _))
  have KA := Lib.hid (show w1.heap[w.heap.size]? = some (.cells #[.int .i64 vk, .slice va1 vn1 vm1, .slice va2 vn2 vm2, .slice va3 vn3 vm3, .slice va4 vn4 vm4, .slice va5 vn5 vm5, .int .i64 vc, .int .i64 ve] 31 (0, 0)) from hw1 ▸ blk_old (blk_old (blk_new w _ rfl)))
  have KB := Lib.hid (show w1.heap[(w.heap.size + 1)]? = some (.cells #[.int .i64 uk, .slice ua1 un1 um1, .slice ua2 un2 um2, .slice ua3 un3 um3, .slice ua4 un4 um4, .slice ua5 un5 um5, .int .i64 uc, .int .i64 ue] 31 (0, 0)) from hw1 ▸ blk_old (hs1 ▸ blk_new (w.alloc (.cells #[.int .i64 vk, .slice va1 vn1 vm1, .slice va2 vn2 vm2, .slice va3 vn3 vm3, .slice va4 vn4 vm4, .slice va5 vn5 vm5, .int .i64 vc, .int .i64 ve] 31)) (.cells #[.int .i64 uk, .slice ua1 un1 um1, .slice ua2 un2 um2, .slice ua3 un3 um3, .slice ua4 un4 um4, .slice ua5 un5 um5, .int .i64 uc, .int .i64 ue] 31) rfl))
  have KR := Lib.hid (show w1.heap[(w.heap.size + 1 + 1)]? = some (.cells #[.int .i64 0, .slice none 0 0, .slice none 0 0, .slice none 0 0, .slice none 0 0, .slice none 0 0, .int .i64 0, .int .i64 0] 31 (0, 0)) from hw1 ▸ hs2 ▸ blk_new ((w.alloc (.cells #[.int .i64 vk, .slice va1 vn1 vm1, .slice va2 vn2 vm2, .slice va3 vn3 vm3, .slice va4 vn4 vm4, .slice va5 vn5 vm5, .int .i64 vc, .int .i64 ve] 31)).alloc (.cells #[.int .i64 uk, .slice ua1 un1 um1, .slice ua2 un2 um2, .slice ua3 un3 um3, .slice ua4 un4 um4, .slice ua5 un5 um5, .int .i64 uc, .int .i64 ue] 31)) (.cells #[.int .i64 0, .slice none 0 0, .slice none 0 0, .slice none 0 0, .slice none 0 0, .slice none 0 0, .int .i64 0, .int .i64 0] 31) rfl)
  have Z1 := Lib.hid (show w1.heap.size = w.heap.size + 1 + 1 + 1 from hw1 ▸ (by simp))
  rw [hw1]
  clear hw1 hs1 hs2
  with_reducible refine (C1.out _ B1.out).mono ?_
  rintro e w2 ⟨rfl, b⟩
  have B2 := Lib.hid (below_then B1.out b)
  have KA := Lib.hid (blk_below b KA.out)
  have KB := Lib.hid (blk_below b KB.out)
  have KR := Lib.hid (blk_below b KR.out)
  clear b C1
  by_cases qv : ValidV v
  · rw [bB_yes qv]
    obtain ⟨k0, k1, k2, k3, k4, k5, k6, k7⟩ := vec8 KB.out
    go_wp2_with fail
    with_reducible refine (C2.out _ B2.out).mono ?_
    rintro e w3 ⟨rfl, b⟩
    have B3 := Lib.hid (below_then B2.out b)
    have KA := Lib.hid (blk_below b KA.out)
    have KB := Lib.hid (blk_below b KB.out)
    have KR := Lib.hid (blk_below b KR.out)
    clear b C2 k0 k1 k2 k3 k4 k5 k6 k7
    by_cases qu : ValidV u
    · have XN := Lib.hid (fun h1 => XN.out ⟨qv, qu⟩ h1)
      have XY := Lib.hid (fun h1 => XY.out ⟨qv, qu⟩ h1)
      have CC := Lib.hid (CC.out qv)
      rw [bB_yes qu]
      clear qv qu XB
      obtain ⟨k0, k1, k2, k3, k4, k5, k6, k7⟩ := vec8 KA.out
      go_wp2_with fail
      refine (CC.out _ B3.out).mono ?_
      rintro e w4 ⟨y, rfl, ho, b⟩
      obtain ⟨yk, ya1, yn1, ym1, ya2, yn2, ym2, ya3, yn3, ym3, ya4, yn4, ym4, ya5, yn5, ym5, yc, ye, rfl⟩ := ho.agg
      have L3 := Lib.hid B3.out.size
      have hr3 := (Array.getElem?_eq_some_iff.1 KR.out).1
      have B4 := Lib.hid (below_then B3.out b)
      have HO := Lib.hid ho
      have S4 := Lib.hid b.size
      have KB := Lib.hid (blk_below b KB.out)
      have KR := Lib.hid (blk_below b KR.out)
      clear b ho k0 k1 k2 k3 k4 k5 k6 k7 CC KA
      obtain ⟨k0, k1, k2, k3, k4, k5, k6, k7⟩ := vec8 KB.out
      have hltB := (Array.getElem?_eq_some_iff.1 KB.out).1
      go_wp2_with fail
      clear k0 k1 k2 k3 k4 k5 k6 k7 hltB
      obtain ⟨w5, hw5⟩ : ∃ W, w4.alloc (.cells #[.int .i64 yk, .slice ya1 yn1 ym1, .slice ya2 yn2 ym2, .slice ya3 yn3 ym3, .slice ya4 yn4 ym4, .slice ya5 yn5 ym5, .int .i64 yc, .int .i64 ye] 31) = W := ⟨_, rfl⟩
      have KX := Lib.hid (show w5.heap[w4.heap.size]? = some (.cells #[.int .i64 yk, .slice ya1 yn1 ym1, .slice ya2 yn2 ym2, .slice ya3 yn3 ym3, .slice ya4 yn4 ym4, .slice ya5 yn5 ym5, .int .i64 yc, .int .i64 ye] 31 (0, 0)) from hw5 ▸ blk_new w4 _ rfl)
      have KR := Lib.hid (show w5.heap[(w.heap.size + 1 + 1)]? = some (.cells #[.int .i64 0, .slice none 0 0, .slice none 0 0, .slice none 0 0, .slice none 0 0, .slice none 0 0, .int .i64 0, .int .i64 0] 31 (0, 0)) from hw5 ▸ blk_old KR.out)
      have B5 := Lib.hid (show Below w.heap.size w w5 from hw5 ▸ B4.out.alloc B4.out.size _)
      have HO := Lib.hid (show Own (d' + 1) v (.agg #[.int .i64 yk, .slice ya1 yn1 ym1, .slice ya2 yn2 ym2, .slice ya3 yn3 ym3, .slice ya4 yn4 ym4, .slice ya5 yn5 ym5, .int .i64 yc, .int .i64 ye]) w3.heap.size w4.heap.size w5 from hw5 ▸ HO.out.below (below1 w4 _) (Nat.le_refl _))
      have S5 := Lib.hid (show w5.heap.size = w4.heap.size + 1 from hw5 ▸ (by simp))
      rw [hw5]
      clear hw5
      obtain ⟨bx, hbx⟩ : ∃ b, w4.heap.size = b := ⟨_, rfl⟩
      rw [hbx] at KX HO S5 S4 ⊢
      clear hbx B4
      refine (CT.out _ B5.out).mono ?_
      rintro e w6 ⟨v6, rfl, tz⟩
      obtain ⟨sc, qc, Fc, rfl, _, _, _, hqc⟩ := txs_of_row tz.row
      have B6 := Lib.hid (below_then B5.out tz.below)
      have KX := Lib.hid (blk_below tz.below KX.out)
      have KR := Lib.hid (blk_below tz.below KR.out)
      have HO := Lib.hid (HO.out.below tz.below (by have := S5.out; omega))
      have TR := Lib.hid tz.row
      have hbw := (Array.getElem?_eq_some_iff.1 KX.out).1
      have hr6 := hr3
      clear tz hqc CT
      obtain ⟨k0, k1, k2, k3, k4, k5, k6, k7⟩ := vec8 KX.out
      obtain ⟨g0, g1, g2, g3, g4, g5, g6, g7⟩ := free8 KX.out
      go_upto_region 6 with (fail)
      clear k0 k1 k2 k3 k4 k5 k6 k7 g0 g1 g2 g3 g4 g5 g6 g7 hbw
      obtain ⟨w7, hw⟩ : ∃ W, w6.setCell ⟨bx, 5, none⟩ (.slice sc T.length qc) = W := ⟨_, rfl⟩
      have KX := Lib.hid (show w7.heap[bx]? = some (.cells #[.int .i64 yk, .slice ya1 yn1 ym1, .slice ya2 yn2 ym2, .slice ya3 yn3 ym3, .slice ya4 yn4 ym4, .slice sc T.length qc, .int .i64 yc, .int .i64 ye] 31 (0, 0)) from hw ▸ Joins.block_setCell KX.out _)
      have KR := Lib.hid (show w7.heap[(w.heap.size + 1 + 1)]? = some (.cells #[.int .i64 0, .slice none 0 0, .slice none 0 0, .slice none 0 0, .slice none 0 0, .slice none 0 0, .int .i64 0, .int .i64 0] 31 (0, 0)) from hw ▸ (Below.heap_setCell _ _ _ _ (show (w.heap.size + 1 + 1) ≠ bx by have := S4.out; omega)).trans KR.out)
      have B7 := Lib.hid (show Below w.heap.size w w7 from hw ▸ B6.out.setCell (p := ⟨bx, 5, none⟩) (show w.heap.size ≤ bx by have := S4.out; have := L3.out; omega) _)
      have HO := Lib.hid (show Own (d' + 1) v (.agg #[.int .i64 yk, .slice ya1 yn1 ym1, .slice ya2 yn2 ym2, .slice ya3 yn3 ym3, .slice ya4 yn4 ym4, .slice ya5 yn5 ym5, .int .i64 yc, .int .i64 ye]) w3.heap.size bx w7 from hw ▸ HO.out.setOut (Nat.le_refl _))
      have TR := Lib.hid (ownsRow_kept TR.out (w' := w7) (fun g hg => hw ▸ Below.heap_setCell _ _ _ _ (show g ≠ bx by have h1 := (TR.out.lt g hg).1; rw [S5.out] at h1; omega)))
      have S7 := Lib.hid (show w7.heap.size = w6.heap.size from hw ▸ (by simp))
      rw [hw]
      clear hw
      obtain ⟨sc', qc', Fc', e, hot, hnd, hrg, hqc⟩ := txs_of_row TR.out
      cases e
      have HX := Lib.hid (show Own (d' + 1) X (.agg #[.int .i64 yk, .slice ya1 yn1 ym1, .slice ya2 yn2 ym2, .slice ya3 yn3 ym3, .slice ya4 yn4 ym4, .slice sc T.length qc, .int .i64 yc, .int .i64 ye]) w3.heap.size w7.heap.size w7 from by
        have h := HO.out
        rw [← EX.out]
        cases v with
        | mk kk items parts names cls levels code env => exact Own.setL h hot hnd hrg hqc (by rw [S5.out]; omega) (by rw [S5.out]; have := S4.out; omega) (by have := S5.out; have := (Array.getElem?_eq_some_iff.1 KX.out).1; omega))
      clear hot hnd hrg hqc HO TR
      by_cases qo : OkTx u
      · rw [bB_yes qo]
        obtain ⟨k0, k1, k2, k3, k4, k5, k6, k7⟩ := vec8 KX.out
        go_wp2_with fail
        with_reducible refine (CX.out _ _ (HX.out.vat (Nat.le_refl _))).mono ?_
        rintro e w8 ⟨rfl, b⟩
        have B8 := Lib.hid (below_then B7.out b)
        have HX := Lib.hid (HX.out.below b (Nat.le_refl _))
        have S8' := Lib.hid b.size
        have KX := Lib.hid (blk_below b KX.out)
        have KR := Lib.hid (blk_below b KR.out)
        clear b k0 k1 k2 k3 k4 k5 k6 k7
        by_cases qx : ValidV X
        · have XX := Lib.hid (XY.out ⟨XT.out qo, qx⟩)
          rw [bB_yes qx]
          clear qo qx XN XY XO XT
          obtain ⟨k0, k1, k2, k3, k4, k5, k6, k7⟩ := vec8 KX.out
          obtain ⟨z0, z1, z2, z3, z4, z5, z6, z7⟩ := vec8 KR.out
          obtain ⟨f0, f1, f2, f3, f4, f5, f6, f7⟩ := free8 KR.out
          go_wp2
          rw [XX.out.1, XX.out.2]
          exact vec_endS rfl rfl rfl rfl KR.out ⟨_, rfl, (HX.out.put8 hr6 _ _ _ _ _ _ _ _).wide L3.out (by rw [put8_size]; exact S8'.out), put8_below B8.out (by omega)⟩
        · have XX := Lib.hid (XN.out (fun h => qx h.2))
          rw [bB_no qx]
          clear qo qx XN XY XO XT
          obtain ⟨z0, z1, z2, z3, z4, z5, z6, z7⟩ := vec8 KR.out
          obtain ⟨f0, f1, f2, f3, f4, f5, f6, f7⟩ := free8 KR.out
          go_wp2
          rw [XX.out.1, XX.out.2]
          exact vec_endS rfl rfl rfl rfl KR.out (zeroSA _ _ w _ (put8_below B8.out (by omega)))
      · have XX := Lib.hid (XN.out (XO.out.resolve_left qo))
        rw [bB_no qo]
        clear qo XN XY XO XT
        obtain ⟨z0, z1, z2, z3, z4, z5, z6, z7⟩ := vec8 KR.out
        obtain ⟨f0, f1, f2, f3, f4, f5, f6, f7⟩ := free8 KR.out
        go_wp2
        rw [XX.out.1, XX.out.2]
        exact vec_endS rfl rfl rfl rfl KR.out (zeroSA _ _ w _ (put8_below B7.out (by omega)))
    · have XX := Lib.hid (XB.out (fun h => qu h.2))
      rw [bB_no qu]
      clear qv qu XB XN XY XO XT
      go_wp2_with fail
      with_reducible refine (specBad _).mono ?_
      rintro e w4 ⟨rfl, b⟩
      have B4 := Lib.hid (below_then B3.out b)
      have KR := Lib.hid (blk_below b KR.out)
      clear b
      obtain ⟨z0, z1, z2, z3, z4, z5, z6, z7⟩ := vec8 KR.out
      obtain ⟨f0, f1, f2, f3, f4, f5, f6, f7⟩ := free8 KR.out
      go_wp2
      rw [XX.out.1, XX.out.2]
      exact vec_endS rfl rfl rfl rfl KR.out (zeroSA _ _ w _ (put8_below B4.out (by omega)))
  · have XX := Lib.hid (XB.out (fun h => qv h.1))
    rw [bB_no qv]
    clear qv XB XN XY XO XT
    go_wp2_with fail
    with_reducible refine (specBad _).mono ?_
    rintro e w3 ⟨rfl, b⟩
    have B3 := Lib.hid (below_then B2.out b)
    have KR := Lib.hid (blk_below b KR.out)
    clear b
    obtain ⟨z0, z1, z2, z3, z4, z5, z6, z7⟩ := vec8 KR.out
    obtain ⟨f0, f1, f2, f3, f4, f5, f6, f7⟩ := free8 KR.out
    go_wp2
    rw [XX.out.1, XX.out.2]
    exact vec_endS rfl rfl rfl rfl KR.out (zeroSA _ _ w _ (put8_below B3.out (by omega)))
end Go.Proofs.Yteoalkjngkcheaa
