/- Names, classes and levels that are given, as data. -/
import Derived.Test.YteoalkjngkcheaaRows
import Derived.Test.YteoalkjngkcheaaMn1
import Derived.Test.YteoalkjngkcheaaVecCnt
import Derived.Test.YteoalkjngkcheaaVecStr
import Derived.WalkKit
import Derived.OwnWalk
import Derived.Lib.Hide
import Derived.Deep.DeepCutAuto
import Derived.Laws.CopyOwn
import Derived.Laws.MakeOwn
import Derived.Maps.AppendAt
import Derived.Deep.MidRow
namespace Go.Proofs.Yteoalkjngkcheaa
open Go.RowKit
set_option maxRecDepth 100000
set_option linter.unusedVariables false

/-- "invalid names", "invalid class", "invalid levels" -/
def namB : ByteArray := ⟨#[105, 110, 118, 97, 108, 105, 100, 32, 110, 97, 109, 101, 115]⟩
def clsB : ByteArray := ⟨#[105, 110, 118, 97, 108, 105, 100, 32, 99, 108, 97, 115, 115]⟩
def levB : ByteArray := ⟨#[105, 110, 118, 97, 108, 105, 100, 32, 108, 101, 118, 101, 108, 115]⟩
theorem own_zeroA (d lo hi : Nat) (w : World) : Own (d + 1) noV (.agg #[.int .i64 0, .slice none 0 0, .slice none 0 0, .slice none 0 0, .slice none 0 0, .slice none 0 0, .int .i64 0, .int .i64 0]) lo hi w := by
  refine ⟨[], ?_, List.nodup_nil, (fun _ h => by cases h)⟩
  show OwnVec w (d + 1) (.mk 0 [] [] [] [] [] 0 0) _ []
  unfold OwnVec
  exact ⟨none, 0, none, 0, none, 0, none, 0, none, 0, [], [], [], [], [], rfl, rfl, ⟨Nat.le_refl _, Nat.le_refl _, Nat.le_refl _, Nat.le_refl _, Nat.le_refl _⟩, .inl ⟨rfl, rfl⟩, .inl ⟨rfl, rfl⟩, .inl ⟨rfl, rfl⟩, .inl ⟨rfl, rfl⟩, .inl ⟨rfl, rfl⟩⟩
theorem zeroSA (d : Nat) (s : ByteArray) (w w' : World) (hb : Below w.heap.size w w') : ResVS (d + 1) noV s w (.returned (.tuple #[.agg #[.int .i64 0, .slice none 0 0, .slice none 0 0, .slice none 0 0, .slice none 0 0, .slice none 0 0, .int .i64 0, .int .i64 0], .string s])) w' := ⟨_, rfl, own_zeroA _ _ _ _, hb⟩
/-- The strings of elements. -/
def txL (l : List It) : List ByteArray := l.map It.t
theorem txL_len (l : List It) : (txL l).length = l.length := by unfold txL; simp
theorem txL_get (l : List It) (i : Nat) : (txL l).getD i ⟨#[]⟩ = (l.getD i noI).t := by
  unfold txL
  rw [List.getD_eq_getElem?_getD, List.getD_eq_getElem?_getD, List.getElem?_map]
  cases l[i]? <;> rfl
theorem txL_mem {l : List It} {s : ByteArray} (h : s ∈ txL l) : ∃ x ∈ l, x.t = s := List.mem_map.1 h
theorem txL_snoc (l : List It) (x : It) : txL (l ++ [x]) = txL l ++ [x.t] := by unfold txL; rw [List.map_append]; rfl
theorem txL_take {l : List It} {k : Nat} (hk : k < l.length) : txL (l.take (k + 1)) = txL (l.take k) ++ [(l.getD k noI).t] := by
  rw [List.take_add_one, List.getElem?_eq_getElem hk, List.getD_eq_getElem?_getD, List.getElem?_eq_getElem hk]
  exact txL_snoc _ _
def setC (v : Vec) (c : List ByteArray) : Vec := match v with | .mk k i p n _ l co e => .mk k i p n c l co e
def setL (v : Vec) (l : List ByteArray) : Vec := match v with | .mk k i p n c _ co e => .mk k i p n c l co e
def setN (v : Vec) (n : List ByteArray) : Vec := match v with | .mk k i p _ c l co e => .mk k i p n c l co e
/-- A text vector or NULL. -/
def TxK (w : Vec) : Prop := kindV w = 3 ∨ kindV w = 0
/-- A vector with labels that were given: x is the vector as it would be. -/
noncomputable def lbV (x w v : Vec) : Vec := bif bB (ValidV v ∧ ValidV w) then (bif bB (TxK w ∧ ValidV x) then x else noV) else noV
noncomputable def lbS (p : ByteArray) (x w v : Vec) : ByteArray := bif bB (ValidV v ∧ ValidV w) then (bif bB (TxK w ∧ ValidV x) then ⟨#[]⟩ else p) else badB
/-- Texts, as many as n, empty ones behind. -/
def padT (l : List ByteArray) (n : Nat) : List ByteArray := (List.range n).map (fun i => l.getD i ⟨#[]⟩)
theorem padT_len (l : List ByteArray) (n : Nat) : (padT l n).length = n := by unfold padT; simp
theorem padT_succ (l : List ByteArray) (n : Nat) : padT l (n + 1) = padT l n ++ [l.getD n ⟨#[]⟩] := by unfold padT; rw [List.range_succ, List.map_append]; rfl
theorem padT_app {l : List ByteArray} {n : Nat} (h : l.length ≤ n) : padT l n = l ++ List.replicate (n - l.length) ⟨#[]⟩ := by
  apply List.ext_getElem?
  intro i
  unfold padT
  rw [List.getElem?_map]
  by_cases h1 : i < n
  · rw [List.getElem?_range h1]
    by_cases h2 : i < l.length
    · rw [List.getElem?_append_left h2, List.getElem?_eq_getElem h2, Option.map_some, List.getD_eq_getElem?_getD, List.getElem?_eq_getElem h2]; rfl
    · rw [List.getElem?_append_right (by omega), List.getElem?_replicate, if_pos (by omega), Option.map_some, List.getD_eq_getElem?_getD, List.getElem?_eq_none (by omega)]; rfl
  · rw [List.getElem?_eq_none (by simp; omega), List.getElem?_eq_none (by simp; omega)]; rfl
theorem padT_mem {l : List ByteArray} {n : Nat} {s : ByteArray} (h : s ∈ padT l n) : s = ⟨#[]⟩ ∨ s ∈ l := by
  unfold padT at h
  obtain ⟨i, _, e⟩ := List.mem_map.1 h
  rw [List.getD_eq_getElem?_getD] at e
  cases q : l[i]? with
  | none => rw [q] at e; exact .inl e.symm
  | some u => rw [q] at e; obtain rfl : u = s := e; exact .inr (List.mem_of_getElem? q)
/-- Names that are given, as data. -/
def NmGo (v w : Vec) : Prop := TxK w ∧ (itemsV w).length ≤ lengthV v
def NoEl (v : Vec) : Prop := kindV v = 0 ∨ kindV v = 5
noncomputable def anN (v w : Vec) : List ByteArray := clnN (padT (txL (itemsV w)) (lengthV v))
noncomputable def anV (v w : Vec) : Vec := bif bB ((ValidV v ∧ ValidV w) ∧ ¬ NoEl v ∧ NmGo v w) then setN v (anN v w) else noV
noncomputable def anS (v w : Vec) : ByteArray := bif bB (ValidV v ∧ ValidV w) then (bif bB (NoEl v) then nelB else (bif bB (NmGo v w) then ⟨#[]⟩ else namB)) else badB
theorem an_bad {v w : Vec} (h : ¬ (ValidV v ∧ ValidV w)) : anV v w = noV ∧ anS v w = badB := by unfold anV anS; rw [bB_no h, bB_no (fun e => h e.1)]; exact ⟨rfl, rfl⟩
theorem an_el {v w : Vec} (h : ValidV v ∧ ValidV w) (h1 : NoEl v) : anV v w = noV ∧ anS v w = nelB := by unfold anV anS; rw [bB_yes h, bB_yes h1, bB_no (fun e => e.2.1 h1)]; exact ⟨rfl, rfl⟩
theorem an_no {v w : Vec} (h : ValidV v ∧ ValidV w) (h1 : ¬ NoEl v) (h2 : ¬ NmGo v w) : anV v w = noV ∧ anS v w = namB := by unfold anV anS; rw [bB_yes h, bB_no h1, bB_no h2, bB_no (fun e => h2 e.2.2)]; exact ⟨rfl, rfl⟩
theorem an_yes {v w : Vec} (h : ValidV v ∧ ValidV w) (h1 : ¬ NoEl v) (h2 : NmGo v w) : anV v w = setN v (anN v w) ∧ anS v w = ⟨#[]⟩ := by unfold anV anS; rw [bB_yes h, bB_no h1, bB_yes h2, bB_yes ⟨h, h1, h2⟩]; exact ⟨rfl, rfl⟩
theorem Own.setN {k : Int} {items : List It} {parts : List Vec} {names cls levels : List ByteArray} {code env : Int} {d lo hi : Nat} {w : World} {c0 c1 c2 c3 c4 c5 c6 c7 : Value} (h : Own (d + 1) (.mk k items parts names cls levels code env) (.agg #[c0, c1, c2, c3, c4, c5, c6, c7]) lo hi w)
    {X : List ByteArray} {na : Option Addr} {nc lo2 hi2 : Nat} {Fx : List Nat} (hT : OwnTxs w na X Fx) (hn : Fx.Nodup) (hr : ∀ g ∈ Fx, lo2 ≤ g ∧ g < hi2) (hc : X.length ≤ nc) (h1 : hi ≤ lo2) (h2 : lo ≤ lo2) (h3 : hi ≤ hi2) : Own (d + 1) (.mk k items parts X cls levels code env) (.agg #[c0, c1, c2, .slice na X.length nc, c4, c5, c6, c7]) lo hi2 w := by
  obtain ⟨F, ho, hnd, hrg⟩ := h.out
  unfold OwnVec at ho
  obtain ⟨ai, ci, ap, cp, an, cn, ac, cc, al, cl, Fi, Fp, F0, Fc, Fl, e, rfl, hC, i1, i2, i3, i4, i5⟩ := ho
  simp only [Value.agg.injEq, Array.mk.injEq, List.cons.injEq, and_true] at e
  obtain ⟨rfl, rfl, rfl, rfl, rfl, rfl, rfl, rfl⟩ := e
  refine ⟨Fi ++ (Fp ++ (Fx ++ (Fc ++ Fl))), ?_, ?_, ?_⟩
  · unfold OwnVec
    exact ⟨ai, ci, ap, cp, na, nc, ac, cc, al, cl, Fi, Fp, Fx, Fc, Fl, rfl, rfl, ⟨hC.1, hC.2.1, hc, hC.2.2.2.1, hC.2.2.2.2⟩, i1, hT, i3, i4, i5⟩
  · have D : ∀ g, (g ∈ Fi ∨ g ∈ Fp ∨ g ∈ Fc ∨ g ∈ Fl) → g ∉ Fx := fun g hg hm => by
      have h4 := hr g hm
      have h5 := hrg g (by simp only [List.mem_append]; grind)
      omega
    simp only [List.nodup_append, List.mem_append] at hnd ⊢
    grind
  · intro g hg
    simp only [List.mem_append] at hg
    by_cases hm : g ∈ Fx
    · have := hr g hm; omega
    · have := hrg g (by simp only [List.mem_append]; grind); omega
theorem Own.setC {k : Int} {items : List It} {parts : List Vec} {names cls levels : List ByteArray} {code env : Int} {d lo hi : Nat} {w : World} {c0 c1 c2 c3 c4 c5 c6 c7 : Value} (h : Own (d + 1) (.mk k items parts names cls levels code env) (.agg #[c0, c1, c2, c3, c4, c5, c6, c7]) lo hi w)
    {X : List ByteArray} {na : Option Addr} {nc lo2 hi2 : Nat} {Fx : List Nat} (hT : OwnTxs w na X Fx) (hn : Fx.Nodup) (hr : ∀ g ∈ Fx, lo2 ≤ g ∧ g < hi2) (hc : X.length ≤ nc) (h1 : hi ≤ lo2) (h2 : lo ≤ lo2) (h3 : hi ≤ hi2) : Own (d + 1) (.mk k items parts names X levels code env) (.agg #[c0, c1, c2, c3, .slice na X.length nc, c5, c6, c7]) lo hi2 w := by
  obtain ⟨F, ho, hnd, hrg⟩ := h.out
  unfold OwnVec at ho
  obtain ⟨ai, ci, ap, cp, an, cn, ac, cc, al, cl, Fi, Fp, Fn, F0, Fl, e, rfl, hC, i1, i2, i3, i4, i5⟩ := ho
  simp only [Value.agg.injEq, Array.mk.injEq, List.cons.injEq, and_true] at e
  obtain ⟨rfl, rfl, rfl, rfl, rfl, rfl, rfl, rfl⟩ := e
  refine ⟨Fi ++ (Fp ++ (Fn ++ (Fx ++ Fl))), ?_, ?_, ?_⟩
  · unfold OwnVec
    exact ⟨ai, ci, ap, cp, an, cn, na, nc, al, cl, Fi, Fp, Fn, Fx, Fl, rfl, rfl, ⟨hC.1, hC.2.1, hC.2.2.1, hc, hC.2.2.2.2⟩, i1, i2, hT, i4, i5⟩
  · have D : ∀ g, (g ∈ Fi ∨ g ∈ Fp ∨ g ∈ Fn ∨ g ∈ Fl) → g ∉ Fx := fun g hg hm => by
      have h4 := hr g hm
      have h5 := hrg g (by simp only [List.mem_append]; grind)
      omega
    simp only [List.nodup_append, List.mem_append] at hnd ⊢
    grind
  · intro g hg
    simp only [List.mem_append] at hg
    by_cases hm : g ∈ Fx
    · have := hr g hm; omega
    · have := hrg g (by simp only [List.mem_append]; grind); omega
theorem Own.setL {k : Int} {items : List It} {parts : List Vec} {names cls levels : List ByteArray} {code env : Int} {d lo hi : Nat} {w : World} {c0 c1 c2 c3 c4 c5 c6 c7 : Value} (h : Own (d + 1) (.mk k items parts names cls levels code env) (.agg #[c0, c1, c2, c3, c4, c5, c6, c7]) lo hi w)
    {X : List ByteArray} {na : Option Addr} {nc lo2 hi2 : Nat} {Fx : List Nat} (hT : OwnTxs w na X Fx) (hn : Fx.Nodup) (hr : ∀ g ∈ Fx, lo2 ≤ g ∧ g < hi2) (hc : X.length ≤ nc) (h1 : hi ≤ lo2) (h2 : lo ≤ lo2) (h3 : hi ≤ hi2) : Own (d + 1) (.mk k items parts names cls X code env) (.agg #[c0, c1, c2, c3, c4, .slice na X.length nc, c6, c7]) lo hi2 w := by
  obtain ⟨F, ho, hnd, hrg⟩ := h.out
  unfold OwnVec at ho
  obtain ⟨ai, ci, ap, cp, an, cn, ac, cc, al, cl, Fi, Fp, Fn, Fc, F0, e, rfl, hC, i1, i2, i3, i4, i5⟩ := ho
  simp only [Value.agg.injEq, Array.mk.injEq, List.cons.injEq, and_true] at e
  obtain ⟨rfl, rfl, rfl, rfl, rfl, rfl, rfl, rfl⟩ := e
  refine ⟨Fi ++ (Fp ++ (Fn ++ (Fc ++ Fx))), ?_, ?_, ?_⟩
  · unfold OwnVec
    exact ⟨ai, ci, ap, cp, an, cn, ac, cc, na, nc, Fi, Fp, Fn, Fc, Fx, rfl, rfl, ⟨hC.1, hC.2.1, hC.2.2.1, hC.2.2.2.1, hc⟩, i1, i2, i3, hT, i5⟩
  · have D : ∀ g, (g ∈ Fi ∨ g ∈ Fp ∨ g ∈ Fn ∨ g ∈ Fc) → g ∉ Fx := fun g hg hm => by
      have h4 := hr g hm
      have h5 := hrg g (by simp only [List.mem_append]; grind)
      omega
    simp only [List.nodup_append, List.mem_append] at hnd ⊢
    grind
  · intro g hg
    simp only [List.mem_append] at hg
    by_cases hm : g ∈ Fx
    · have := hr g hm; omega
    · have := hrg g (by simp only [List.mem_append]; grind); omega
end Go.Proofs.Yteoalkjngkcheaa

/- LogicOf as data. -/
namespace Go.Proofs.Yteoalkjngkcheaa
open Go.RowKit
set_option maxRecDepth 100000
set_option linter.unusedVariables false

def andB : ByteArray := ⟨#[38]⟩
def orB : ByteArray := ⟨#[124]⟩
/-- "unknown operator" -/
def unkB : ByteArray := ⟨#[117, 110, 107, 110, 111, 119, 110, 32, 111, 112, 101, 114, 97, 116, 111, 114]⟩
/-- "lengths do not match" -/
def lenB : ByteArray := ⟨#[108, 101, 110, 103, 116, 104, 115, 32, 100, 111, 32, 110, 111, 116, 32, 109, 97, 116, 99, 104]⟩
noncomputable def connL (op : ByteArray) (x y : Int) : Int := match bB (op = andB) with | true => aL x y | false => oL x y
def itL (v : Vec) : Nat := (itemsV v).length
def lgcN (a b : Vec) : Int := sizeL (itL a) (itL b)
noncomputable def lgcF (op : ByteArray) (a b : Vec) (i : Nat) : Int := connL op (truthI ((itemsV a).getD (i % itL a) noI)) (truthI ((itemsV b).getD (i % itL b) noI))
noncomputable def lgcS (op : ByteArray) (a b : Vec) : ByteArray := match bB (ValidV a ∧ ValidV b) with
  | false => badB
  | true => match bB (op = andB ∨ op = orB) with
    | false => unkB
    | true => match bB (Counts a ∧ Counts b) with
      | false => nonLogB
      | true => match bB (0 ≤ lgcN a b) with | false => lenB | true => ⟨#[]⟩
noncomputable def lgcV (op : ByteArray) (a b : Vec) : Vec := match bB (ValidV a ∧ ValidV b) with
  | false => noV
  | true => match bB (op = andB ∨ op = orB) with
    | false => noV
    | true => match bB (Counts a ∧ Counts b) with
      | false => noV
      | true => match bB (0 ≤ lgcN a b) with | false => noV | true => mkN 1 (itF (fun i => logI (lgcF op a b i)) (lgcN a b).toNat) (namesL (itL a) (itL b) (lgcN a b).toNat (namesV a) (namesV b))
noncomputable def cntL (v : Vec) : Nat := match bB (Counts v) with | true => itL v | false => 0
end Go.Proofs.Yteoalkjngkcheaa

/- Whether operands suit an operator, in the program. -/
namespace Go.Proofs.Yteoalkjngkcheaa
open Go.RowKit
set_option maxRecDepth 100000
set_option linter.unusedVariables false

def matchL (m n : Nat) : Prop := 0 ≤ sizeL m n
theorem implAre (d0 d1 : Nat) (a b : Vec) (k0 : Int) (ai0 ap0 an0 ac0 al0 : Option Addr) (n0 ci0 np0 cp0 nn0 cn0 nc0 cc0 nl0 cl0 : Nat) (code0 env0 : Int) (k1 : Int) (ai1 ap1 an1 ac1 al1 : Option Addr) (n1 ci1 np1 cp1 nn1 cn1 nc1 cc1 nl1 cl1 : Nat) (code1 env1 : Int) (g lo hi : Nat) (w : World) (h0 : VecAt lo hi w d0 a (.agg #[.int .i64 k0, .slice ai0 n0 ci0, .slice ap0 np0 cp0, .slice an0 nn0 cn0, .slice ac0 nc0 cc0, .slice al0 nl0 cl0, .int .i64 code0, .int .i64 env0])) (h1 : VecAt lo hi w d1 b (.agg #[.int .i64 k1, .slice ai1 n1 ci1, .slice ap1 np1 cp1, .slice an1 nn1 cn1, .slice ac1 nc1 cc1, .slice al1 nl1 cl1, .int .i64 code1, .int .i64 env1])) (hhi : hi ≤ w.heap.size) (hsm0 : Small d0 a) (hsm1 : Small d1 b)
    (hg : w.heap[g]? = some (.cells #[.int .i64 k0, .slice ai0 n0 ci0, .slice ap0 np0 cp0, .slice an0 nn0 cn0, .slice ac0 nc0 cc0, .slice al0 nl0 cl0, .int .i64 code0, .int .i64 env0, .int .i64 k1, .slice ai1 n1 ci1, .slice ap1 np1 cp1, .slice an1 nn1 cn1, .slice ac1 nc1 cc1, .slice al1 nl1 cl1, .int .i64 code1, .int .i64 env1] 31 (0, 0))) :
    Calls Try.prog 28 #[.slice (some ⟨g, 0, none⟩) 2 2] w fun e w' => e = .returned (.bool (bB (ValidV a ∧ ValidV b))) ∧ Below w.heap.size w w' := by
  have CA := Lib.hid (fun (w1 : World) (hb : Below w.heap.size w w1) => implIsVector d0 a (.agg #[.int .i64 k0, .slice ai0 n0 ci0, .slice ap0 np0 cp0, .slice an0 nn0 cn0, .slice ac0 nc0 cc0, .slice al0 nl0 cl0, .int .i64 code0, .int .i64 env0]) lo hi w1 (h0.below hb hhi) (Nat.le_trans hhi hb.size) hsm0)
  have CB := Lib.hid (fun (w1 : World) (hb : Below w.heap.size w w1) => implIsVector d1 b (.agg #[.int .i64 k1, .slice ai1 n1 ci1, .slice ap1 np1 cp1, .slice an1 nn1 cn1, .slice ac1 nc1 cc1, .slice al1 nl1 cl1, .int .i64 code1, .int .i64 env1]) lo hi w1 (h1.below hb hhi) (Nat.le_trans hhi hb.size) hsm1)
  have KG := Lib.hid hg
  have hgw := (Array.getElem?_eq_some_iff.1 hg).1
  clear h0 h1 hsm0 hsm1 hg
  go_enter Try.func28, Try.ntmps28
  go_wp2
  go_loopw [7] (fun i wr => ∃ k : Nat, k ≤ 2 ∧ i = .int .i64 k ∧ (0 < k → ValidV a) ∧ (1 < k → ValidV b) ∧ Below w.heap.size w wr) (fun i _ => 2 - (intOf i).toNat)
  case atStart => exact ⟨0, by omega, rfl, fun h => absurd h (by omega), fun h => absurd h (by omega), Below.refl _ _⟩
  case round =>
    obtain ⟨k, hk, rfl, ha, hb, hbw⟩ := hrel
    have BW := Lib.hid hbw
    have KGW := Lib.hid (blk_below hbw KG.out)
    have PA := Lib.hid ha
    have PB := Lib.hid hb
    clear hbw ha hb
    have hgr := (Array.getElem?_eq_some_iff.1 KGW.out).1
    rcases (show k = 0 ∨ k = 1 ∨ k = 2 by omega) with rfl | rfl | rfl
    · have g0 : wr.cell? ⟨g, 0, none⟩ = some (.int .i64 k0) := cellOf KGW.out rfl
      have g1 : wr.cell? ⟨g, 1, none⟩ = some (.slice ai0 n0 ci0) := cellOf KGW.out rfl
      have g2 : wr.cell? ⟨g, 2, none⟩ = some (.slice ap0 np0 cp0) := cellOf KGW.out rfl
      have g3 : wr.cell? ⟨g, 3, none⟩ = some (.slice an0 nn0 cn0) := cellOf KGW.out rfl
      have g4 : wr.cell? ⟨g, 4, none⟩ = some (.slice ac0 nc0 cc0) := cellOf KGW.out rfl
      have g5 : wr.cell? ⟨g, 5, none⟩ = some (.slice al0 nl0 cl0) := cellOf KGW.out rfl
      have g6 : wr.cell? ⟨g, 6, none⟩ = some (.int .i64 code0) := cellOf KGW.out rfl
      have g7 : wr.cell? ⟨g, 7, none⟩ = some (.int .i64 env0) := cellOf KGW.out rfl
      go_wp2_with fail
      with_reducible refine (CA.out _ (BW.out.alloc BW.out.size _)).mono ?_
      rintro e w' ⟨rfl, b'⟩
      have BN := Lib.hid ((BW.out.alloc BW.out.size (.cells #[.int .i64 k0, .slice ai0 n0 ci0, .slice ap0 np0 cp0, .slice an0 nn0 cn0, .slice ac0 nc0 cc0, .slice al0 nl0 cl0, .int .i64 code0, .int .i64 env0] 31)).trans (b'.mono (by have := BW.out.size; simp; omega)))
      clear b'
      by_cases q : ValidV a
      · rw [bB_yes q]
        have Q := Lib.hid q
        clear q
        go_wp2
        go_roundw
        case rel => exact ⟨1, by omega, by go_num, fun _ => Q.out, fun h => absurd h (by omega), BN.out⟩
        case measure => simp [intOf]
      · rw [bB_no q]
        have X := Lib.hid (fun h : ValidV a ∧ ValidV b => q h.1)
        clear q
        go_wp2
        go_ret
        exact ⟨ret_no X.out, BN.out⟩
    · have g0 : wr.cell? ⟨g, 8, none⟩ = some (.int .i64 k1) := cellOf KGW.out rfl
      have g1 : wr.cell? ⟨g, 9, none⟩ = some (.slice ai1 n1 ci1) := cellOf KGW.out rfl
      have g2 : wr.cell? ⟨g, 10, none⟩ = some (.slice ap1 np1 cp1) := cellOf KGW.out rfl
      have g3 : wr.cell? ⟨g, 11, none⟩ = some (.slice an1 nn1 cn1) := cellOf KGW.out rfl
      have g4 : wr.cell? ⟨g, 12, none⟩ = some (.slice ac1 nc1 cc1) := cellOf KGW.out rfl
      have g5 : wr.cell? ⟨g, 13, none⟩ = some (.slice al1 nl1 cl1) := cellOf KGW.out rfl
      have g6 : wr.cell? ⟨g, 14, none⟩ = some (.int .i64 code1) := cellOf KGW.out rfl
      have g7 : wr.cell? ⟨g, 15, none⟩ = some (.int .i64 env1) := cellOf KGW.out rfl
      go_wp2_with fail
      with_reducible refine (CB.out _ (BW.out.alloc BW.out.size _)).mono ?_
      rintro e w' ⟨rfl, b'⟩
      have BN := Lib.hid ((BW.out.alloc BW.out.size (.cells #[.int .i64 k1, .slice ai1 n1 ci1, .slice ap1 np1 cp1, .slice an1 nn1 cn1, .slice ac1 nc1 cc1, .slice al1 nl1 cl1, .int .i64 code1, .int .i64 env1] 31)).trans (b'.mono (by have := BW.out.size; simp; omega)))
      clear b'
      have QA := Lib.hid (PA.out (by omega))
      by_cases q : ValidV b
      · rw [bB_yes q]
        have Q := Lib.hid q
        clear q
        go_wp2
        go_roundw
        case rel => exact ⟨2, by omega, by go_num, fun _ => QA.out, fun _ => Q.out, BN.out⟩
        case measure => simp [intOf]
      · rw [bB_no q]
        have X := Lib.hid (fun h : ValidV a ∧ ValidV b => q h.2)
        clear q
        go_wp2
        go_ret
        exact ⟨ret_no X.out, BN.out⟩
    · have X := Lib.hid (show ValidV a ∧ ValidV b from ⟨PA.out (by omega), PB.out (by omega)⟩)
      go_wp2
      go_ret
      exact ⟨ret_yes X.out, BW.out⟩
/-- What problemOfOperands finds where the operands must count as numbers. -/
noncomputable def prbB (known : Bool) (a b : Vec) (uns : ByteArray) : ByteArray := match bB (ValidV a ∧ ValidV b) with
  | false => badB
  | true => match known with
    | false => unkB
    | true => match bB (Counts a ∧ Counts b) with
      | false => uns
      | true => match bB (matchL (itL a) (itL b)) with | false => lenB | true => ⟨#[]⟩
end Go.Proofs.Yteoalkjngkcheaa

/- Laws on two vectors: what a region that calls on both keeps. -/
namespace Go.Proofs.Yteoalkjngkcheaa
set_option maxRecDepth 100000
open Go.RowKit
set_option linter.unusedVariables false

/-- A vector that may be read. -/
structure VatH (d : Nat) (v : Vec) (y : Value) (w : World) : Prop where
  out : VecAt 0 w.heap.size w d v y
theorem VatH.keep {d : Nat} {v : Vec} {y : Value} {w w1 : World} (h : VatH d v y w) (hb : Below w.heap.size w w1) : VatH d v y w1 := ⟨VecAt.wide (Nat.le_refl _) hb.size _ _ _ (h.out.below hb (Nat.le_refl _))⟩
theorem ResV.vatH {d : Nat} {v : Vec} {y : Value} {lo : Nat} {w : World} (h : Own d v y lo w.heap.size w) : VatH d v y w := ⟨h.vat (Nat.le_refl _)⟩
/-- A vector of one's own in a range, kept. -/
structure OwnH (d : Nat) (V : Vec) (y : Value) (lo hi : Nat) (w : World) : Prop where
  own : Own d V y lo hi w
  hh : hi ≤ w.heap.size
theorem OwnH.keep {d : Nat} {V : Vec} {y : Value} {lo hi : Nat} {w w1 : World} (h : OwnH d V y lo hi w) (hb : Below w.heap.size w w1) : OwnH d V y lo hi w1 := ⟨h.own.below hb h.hh, Nat.le_trans h.hh hb.size⟩
theorem Own.rowO {d : Nat} {V : Vec} {y : Value} {lo hi g : Nat} {c : Array Value} {w : World} (h : Own d V y lo hi w) (hg : g < lo ∨ hi ≤ g) : Own d V y lo hi (w.setRow g c) := by
  obtain ⟨F, q1, q2, q3⟩ := h.out
  exact ⟨F, q1.kept _ _ _ _ (fun b hb => row_old rfl (by have := q3 b hb; omega)), q2, q3⟩
/-- A vector that was made and put into a variable of its own. -/
structure MadeU (V : Vec) (wk wx : World) (g : Nat) (C : Array Value) : Prop where
  blk : wx.heap[g]? = some (.cells C 31 (0, 0))
  own : Own 1 V (.agg C) wk.heap.size wx.heap.size wx
  below : Below wk.heap.size wk wx
  lo : wk.heap.size ≤ g
theorem MadeU.cells {V : Vec} {wk wx : World} {g : Nat} {C : Array Value} (h : MadeU V wk wx g C) : ∃ (k : Int) (a1 : Option Addr) (n1 m1 : Nat) (a2 : Option Addr) (n2 m2 : Nat) (a3 : Option Addr) (n3 m3 : Nat) (a4 : Option Addr) (n4 m4 : Nat) (a5 : Option Addr) (n5 m5 : Nat) (code env : Int), C = #[.int .i64 k, .slice a1 n1 m1, .slice a2 n2 m2, .slice a3 n3 m3, .slice a4 n4 m4, .slice a5 n5 m5, .int .i64 code, .int .i64 env] := by
  obtain ⟨k, a1, n1, m1, a2, n2, m2, a3, n3, m3, a4, n4, m4, a5, n5, m5, c, e, h'⟩ := h.own.agg
  simp only [Value.agg.injEq] at h'
  exact ⟨k, a1, n1, m1, a2, n2, m2, a3, n3, m3, a4, n4, m4, a5, n5, m5, c, e, h'⟩
section
variable {P : Program} {ops : Array Oper} {Q : Exit → Act → World → Prop} {S : World → Prop}
variable {r : List (Nat × Bool)} {a : Act} {e : List (Nat × Value)} {w : World} {i d : Nat} {g : Option (Nat × Bool)} {v : Value}
/-- A part of a call's several results. -/
theorem run_extract {x : Operand} {k : Nat} {vs : Array Value} (ho : opAt ops i = some (some d, .extract x k, g)) (hd : Nat.blt d a.tmps.size = true) (hw : wantE ops a e g = some true)
    (hx : lookO a e x = .tuple vs) (hv : vs[k]? = some v) (h : RunE P ops Q S r a ((d, v) :: e) w) : RunE P ops Q S ((i, true) :: r) a e w :=
  run_yield ho hd hw (fun o w' h1 _ => by
    unfold execOp; rw [h1]; simp only [hx]
    refine run_v ?_
    unfold Instr.extract
    simp only [hv]
    rfl) h
end
/-- A mark that goes on from k. -/
theorem markOwnK (d : Nat) (V : Vec) (y : Value) (k : Nat) (lo hi : Nat) (w : World) (h : Own d V y lo hi w) (hh : hi ≤ w.heap.size) (hs : Small d V) (hk : 1 ≤ k) (hc : k + cntM d V ≤ 8000000) :
    Calls Try.prog 11 #[y, .int .i64 k] w fun e w' => e = .returned (.int .i64 ((k + cntM d V : Nat) : Int)) ∧ Within lo hi w w' := by
  obtain ⟨F, h1, h2, h3⟩ := h.out
  refine (markVec d V y k F w h1 h2 (fun b hb => by have := h3 b hb; omega) hs hk hc).mono ?_
  rintro e w' ⟨rfl, ho, t⟩
  exact ⟨rfl, t.within h3⟩
end Go.Proofs.Yteoalkjngkcheaa

/- The reference's last look at a result: l4Fit. -/
namespace Go.Proofs.Yteoalkjngkcheaa
set_option maxRecDepth 100000
open Go.RowKit
set_option linter.unusedVariables false
end Go.Proofs.Yteoalkjngkcheaa

/- The reference's l4Clean: names that are all empty are left out. -/
namespace Go.Proofs.Yteoalkjngkcheaa
set_option maxRecDepth 100000
open Go.RowKit
set_option linter.unusedVariables false
set_option maxHeartbeats 4000000 in
theorem specClean (kk code env : Int) (items : List It) (parts : List Vec) (names cls levels : List ByteArray) (ai ap an ac al : Option Addr) (ci cp cn cc cl lo hi : Nat) (w : World) (hN : TextsAt lo hi w an names) (hhi : hi ≤ w.heap.size) (ln : names.length ≤ 1048576) :
    Calls Try.prog 24 #[.agg #[.int .i64 kk, .slice ai items.length ci, .slice ap parts.length cp, .slice an names.length cn, .slice ac cls.length cc, .slice al levels.length cl, .int .i64 code, .int .i64 env]] w fun e w' => Below w.heap.size w w' ∧ (((∃ i, i < names.length ∧ txtS names i ≠ ⟨#[]⟩) ∧ e = .returned (.agg #[.int .i64 kk, .slice ai items.length ci, .slice ap parts.length cp, .slice an names.length cn, .slice ac cls.length cc, .slice al levels.length cl, .int .i64 code, .int .i64 env])) ∨
      ((∀ i, i < names.length → txtS names i = ⟨#[]⟩) ∧ ∃ g, w.heap.size ≤ g ∧ e = .returned (.agg #[.int .i64 kk, .slice ai items.length ci, .slice ap parts.length cp, .slice (some ⟨g, 0, none⟩) 0 0, .slice ac cls.length cc, .slice al levels.length cl, .int .i64 code, .int .i64 env]))) := by
  have HT := Lib.hid (fun (w1 : World) (hb : Below w.heap.size w w1) (k : Nat) (hk : k < names.length) => show ∃ b off, an = some ⟨b, off, none⟩ ∧ w1.cell? ⟨b, off + k, none⟩ = some (.string (txtS names k)) from by
    obtain ⟨b, off, e, _, _, h⟩ := (hN.below hb hhi) k (txtS names k) (by unfold txtS; simp [List.getD_eq_getElem?_getD, List.getElem?_eq_getElem hk])
    exact ⟨b, off, e, h⟩)
  clear hN
  obtain ⟨n, hn⟩ : ∃ n, names.length = n := ⟨_, rfl⟩
  rw [hn] at HT ln ⊢
  clear hn
  go_enter Try.func24, Try.ntmps24
  obtain ⟨w1, hw1⟩ : ∃ W, (w.alloc (.cells #[.int .i64 kk, .slice ai items.length ci, .slice ap parts.length cp, .slice an n cn, .slice ac cls.length cc, .slice al levels.length cl, .int .i64 code, .int .i64 env] 31)).alloc (.cells #[.int .i64 0, .slice none 0 0, .slice none 0 0, .slice none 0 0, .slice none 0 0, .slice none 0 0, .int .i64 0, .int .i64 0] 31) = W := ⟨_, rfl⟩
  have hsz : (w.alloc (.cells #[.int .i64 kk, .slice ai items.length ci, .slice ap parts.length cp, .slice an n cn, .slice ac cls.length cc, .slice al levels.length cl, .int .i64 code, .int .i64 env] 31)).heap.size = w.heap.size + 1 := by simp
  have B1 := Lib.hid (show Below w.heap.size w w1 from hw1 ▸ (below1 w _).alloc (by simp) _)
  have KA := Lib.hid (show w1.heap[w.heap.size]? = some (.cells #[.int .i64 kk, .slice ai items.length ci, .slice ap parts.length cp, .slice an n cn, .slice ac cls.length cc, .slice al levels.length cl, .int .i64 code, .int .i64 env] 31 (0, 0)) from hw1 ▸ blk_old (blk_new w _ rfl))
  have KR := Lib.hid (show w1.heap[w.heap.size + 1]? = some (.cells #[.int .i64 0, .slice none 0 0, .slice none 0 0, .slice none 0 0, .slice none 0 0, .slice none 0 0, .int .i64 0, .int .i64 0] 31 (0, 0)) from hw1 ▸ hsz ▸ blk_new (w.alloc (.cells #[.int .i64 kk, .slice ai items.length ci, .slice ap parts.length cp, .slice an n cn, .slice ac cls.length cc, .slice al levels.length cl, .int .i64 code, .int .i64 env] 31)) (.cells #[.int .i64 0, .slice none 0 0, .slice none 0 0, .slice none 0 0, .slice none 0 0, .slice none 0 0, .int .i64 0, .int .i64 0] 31) rfl)
  have EW := Lib.hid hw1
  clear hw1 hsz
  go_wp2
  go_loopw [3] (fun i wr => ∃ k : Nat, k ≤ n ∧ i = .int .i64 k ∧ wr = w1 ∧ ∀ j, j < k → txtS names j = ⟨#[]⟩) (fun i _ => n - (intOf i).toNat)
  case atStart => exact ⟨0, Nat.zero_le _, rfl, EW.out, fun j h => absurd h (Nat.not_lt_zero _)⟩
  case round =>
    obtain ⟨k, hk, rfl, rfl, hj⟩ := hrel
    have HJ := Lib.hid hj
    clear hj
    obtain ⟨k0, k1, k2, k3, k4, k5, k6, k7⟩ := vec8 KA.out
    by_cases hlt : k < n
    · obtain ⟨b, off, rfl, c⟩ := HT.out _ B1.out _ hlt
      by_cases q : txtS names k = ⟨#[]⟩
      · rw [q] at c
        have Q := Lib.hid q
        clear q
        go_wp2
        go_roundw
        case rel => exact ⟨k + 1, by omega, by go_num, trivial, fun j h => by
          rcases Nat.lt_or_ge j k with h' | h'
          · exact HJ.out j h'
          · obtain rfl : j = k := by omega
            exact Q.out⟩
        case measure => simp [intOf]; omega
      · obtain ⟨x, hx⟩ : ∃ x, txtS names k = x := ⟨_, rfl⟩
        rw [hx] at c
        have Q := Lib.hid q
        have hxb : (x.toList == []) = false := by have h := str_not (hx ▸ q); rw [ByteArray.toList_eq ⟨#[]⟩] at h; exact h
        clear q hx
        obtain ⟨z0, z1, z2, z3, z4, z5, z6, z7⟩ := vec8 KR.out
        obtain ⟨f0, f1, f2, f3, f4, f5, f6, f7⟩ := free8 KR.out
        go_wp2
        exact vec_end rfl rfl rfl KR.out ⟨put8_below B1.out (Nat.le_succ _), .inl ⟨⟨k, hlt, Q.out⟩, rfl⟩⟩
    · obtain rfl : k = n := by omega
      go_upto_region 6 with (fail)
      clear k0 k1 k2 k3 k4 k5 k6 k7
      have KA2 := Lib.hid (show (wr.alloc (.cells #[] 9)).heap[w.heap.size]? = some (.cells #[.int .i64 kk, .slice ai items.length ci, .slice ap parts.length cp, .slice an k cn, .slice ac cls.length cc, .slice al levels.length cl, .int .i64 code, .int .i64 env] 31 (0, 0)) from blk_old KA.out)
      have KR2 := Lib.hid (show (wr.alloc (.cells #[] 9)).heap[w.heap.size + 1]? = some (.cells #[.int .i64 0, .slice none 0 0, .slice none 0 0, .slice none 0 0, .slice none 0 0, .slice none 0 0, .int .i64 0, .int .i64 0] 31 (0, 0)) from blk_old KR.out)
      have u2 : ∃ x, (wr.alloc (.cells #[] 9)).cell? ⟨w.heap.size, 3, none⟩ = some x := ⟨_, cellOf KA2.out rfl⟩
      obtain ⟨x2, hx2⟩ := u2
      have hf2 : (wr.alloc (.cells #[] 9)).frozen? ⟨w.heap.size, 3, none⟩ = false := freeOf KA2.out
      obtain ⟨w3, hw⟩ : ∃ W, (wr.alloc (.cells #[] 9)).setCell ⟨w.heap.size, 3, none⟩ (.slice (some ⟨wr.heap.size, 0, none⟩) 0 0) = W := ⟨_, rfl⟩
      have KA3 := Lib.hid (show w3.heap[w.heap.size]? = some (.cells #[.int .i64 kk, .slice ai items.length ci, .slice ap parts.length cp, .slice (some ⟨wr.heap.size, 0, none⟩) 0 0, .slice ac cls.length cc, .slice al levels.length cl, .int .i64 code, .int .i64 env] 31 (0, 0)) from hw ▸ Joins.block_setCell KA2.out _)
      have KR3 := Lib.hid (show w3.heap[w.heap.size + 1]? = some (.cells #[.int .i64 0, .slice none 0 0, .slice none 0 0, .slice none 0 0, .slice none 0 0, .slice none 0 0, .int .i64 0, .int .i64 0] 31 (0, 0)) from hw ▸ (Below.heap_setCell _ _ _ _ (by show w.heap.size + 1 ≠ w.heap.size; omega)).trans KR2.out)
      have B3 := Lib.hid (show Below w.heap.size w w3 from hw ▸ (B1.out.alloc B1.out.size _).setCell (p := ⟨w.heap.size, 3, none⟩) (Nat.le_refl _) _)
      have EW3 := Lib.hid hw
      clear hw
      go_upto_region 7 with (fail)
      rw [EW3.out]
      clear hx2 hf2
      obtain ⟨k0, k1, k2, k3, k4, k5, k6, k7⟩ := vec8 KA3.out
      obtain ⟨z0, z1, z2, z3, z4, z5, z6, z7⟩ := vec8 KR3.out
      obtain ⟨f0, f1, f2, f3, f4, f5, f6, f7⟩ := free8 KR3.out
      go_wp2
      exact vec_end rfl rfl rfl KR3.out ⟨put8_below B3.out (Nat.le_succ _), .inr ⟨HJ.out, wr.heap.size, B1.out.size, rfl⟩⟩
end Go.Proofs.Yteoalkjngkcheaa

/- Strings of elements, labels that are given: the program. -/
namespace Go.Proofs.Yteoalkjngkcheaa
open Go.RowKit
set_option maxRecDepth 100000
set_option linter.unusedVariables false

theorem implTextsOf (d : Nat) (v : Vec) (val : Value) (lo hi : Nat) (w : World) (hv : VecAt lo hi w d v val) (hhi : hi ≤ w.heap.size) (hsm : Small d v) :
    Calls Try.prog 34 #[val] w fun e w' => ∃ v', e = .returned v' ∧ TxZ w w' (txL (itemsV v)) v' := by
  obtain ⟨kk, items, parts, names, cls, levels, code, env⟩ := v
  obtain ⟨d', ai, ci, ap, cp, an, cn, ac, cc, al, cl, ed, rfl, hI, hN, hC, hL, hP⟩ := vecAt_open hv
  subst ed
  have hn : items.length ≤ 1048576 := hsm.1
  have AI := Lib.hid (fun (k : Nat) (W : World) (hk : k < items.length) (hb : Below w.heap.size w W) => (hI.below hb hhi).at_ hk)
  have TS := Lib.hid (fun k (hk : k < items.length) => txL_take hk)
  have ST := Lib.hid (show TxZ w w (txL (items.take 0)) (.slice none 0 0) from TxZ.nil w w (Below.refl _ _))
  have EN := Lib.hid (show txL (items.take items.length) = txL items by rw [List.take_length])
  have LE := Lib.hid (fun k => (by rw [txL_len, List.length_take]; omega : (txL (items.take k)).length ≤ items.length))
  show Calls _ _ _ _ (fun e w' => ∃ v', e = .returned v' ∧ TxZ w w' (txL items) v')
  obtain ⟨n, hn'⟩ : ∃ n, items.length = n := ⟨_, rfl⟩
  rw [hn'] at AI TS EN LE hn ⊢
  clear hI hN hC hL hP hsm hn' hv
  go_enter Try.func34, Try.ntmps34
  go_upto_region 2 with (fail)
  obtain ⟨w1, hw1⟩ : ∃ W, w.alloc (.cells #[.int .i64 kk, .slice ai n ci, .slice ap parts.length cp, .slice an names.length cn, .slice ac cls.length cc, .slice al levels.length cl, .int .i64 code, .int .i64 env] 31) = W := ⟨_, rfl⟩
  have B1 := Lib.hid (show Below w.heap.size w w1 from hw1 ▸ (below1 w _))
  have KA := Lib.hid (show w1.heap[w.heap.size]? = some (.cells #[.int .i64 kk, .slice ai n ci, .slice ap parts.length cp, .slice an names.length cn, .slice ac cls.length cc, .slice al levels.length cl, .int .i64 code, .int .i64 env] 31 (0, 0)) from hw1 ▸ blk_new w _ rfl)
  have Z1 := Lib.hid (show w1.heap.size = w.heap.size + 1 from hw1 ▸ (by simp))
  rw [hw1]
  clear hw1
  obtain ⟨k0, k1, k2, k3, k4, k5, k6, k7⟩ := vec8 KA.out
  go_wp2
  clear k0 k1 k2 k3 k4 k5 k6 k7
  have ST := Lib.hid (show TxZ w w1 (txL (items.take 0)) (.slice none 0 0) from ST.out.keep B1.out)
  go_loopw [3, 9] (fun v i wr => ∃ k : Nat, k ≤ n ∧ i = .int .i64 k ∧ TxZ w wr (txL (items.take k)) v) (fun _ i _ => n - (intOf i).toNat)
  case atStart => exact ⟨0, Nat.zero_le _, rfl, ST.out⟩
  case round =>
    obtain ⟨k, hk, rfl, hir⟩ := hrel
    have IR := Lib.hid hir
    clear hir
    by_cases hlt : k < n
    · obtain ⟨ba, off, rfl, hbB, c0, c1, c2'⟩ := AI.out k wr hlt IR.out.below
      have c2 : wr.cell? ⟨ba, off + k * 3 + 2, none⟩ = some (.string (items.getD k noI).t) := c2'
      have LN := Lib.hid (show (txL (items.take k)).length ≤ 1048576 by have := LE.out k; omega)
      have NX := Lib.hid (TS.out k hlt)
      obtain ⟨x, hx⟩ : ∃ x, items.getD k noI = x := ⟨_, rfl⟩
      rw [hx] at c0 c1 c2 NX
      clear hx c2'
      obtain ⟨w2, hw2⟩ : ∃ W, wr.alloc (.cells #[.int .i64 x.n, .int .i64 x.d, .string x.t] 46) = W := ⟨_, rfl⟩
      have B2 := Lib.hid (show Below wr.heap.size wr w2 from hw2 ▸ below1 wr _)
      have KX := Lib.hid (show w2.heap[wr.heap.size]? = some (.cells #[.int .i64 x.n, .int .i64 x.d, .string x.t] 46 (0, 0)) from hw2 ▸ blk_new wr _ rfl)
      have EW := Lib.hid hw2
      clear hw2
      go_upto_region 5 with (fail)
      rw [EW.out]
      have IK := Lib.hid (IR.out.keep B2.out)
      have k2 := cellOf KX.out (i := 2) rfl
      go_wp2_with (at_builtin; go_loud (refine wpList_appTx rfl _ _ rfl x.t (txL (items.take k)) _ _ rfl rfl (IK.out.keep (below1 _ _)) (blk_new _ _ rfl) LN.out ?_))
      intro v' w3 hir
      have IN := Lib.hid (NX.out ▸ hir)
      clear hir
      go_wp2
      go_roundw
      case rel => exact ⟨k + 1, by omega, by go_num, IN.out⟩
      case measure => simp [intOf]; omega
    · obtain rfl : k = n := by omega
      go_wp2
      go_ret
      exact ⟨_, rfl, EN.out ▸ IR.out⟩
theorem implIsTx (d : Nat) (v : Vec) (val : Value) (lo hi : Nat) (w : World) (hv : VecAt lo hi w d v val) :
    Calls Try.prog 29 #[val] w fun e w' => e = .returned (.bool (bB (TxK v))) ∧ Below w.heap.size w w' := by
  obtain ⟨kk, items, parts, names, cls, levels, code, env⟩ := v
  obtain ⟨d', ai, ci, ap, cp, an, cn, ac, cc, al, cl, ed, rfl, hI, hN, hC, hL, hP⟩ := vecAt_open hv
  clear hv hI hN hC hL hP
  by_cases h3 : kk = 3
  · have XX := Lib.hid (bB_yes (show TxK (.mk kk items parts names cls levels code env) from .inl h3))
    subst h3
    go_enter Try.func29, Try.ntmps29
    go_wp2
    go_ret
    exact ⟨by rw [XX.out]; rfl, below1 _ _⟩
  · have h3b : (kk == 3) = false := beq_eq_false_iff_ne.2 h3
    by_cases h0 : kk = 0
    · have XX := Lib.hid (bB_yes (show TxK (.mk kk items parts names cls levels code env) from .inr h0))
      subst h0
      go_enter Try.func29, Try.ntmps29
      go_wp2
      go_ret
      exact ⟨by rw [XX.out]; rfl, below1 _ _⟩
    · have h0b : (kk == 0) = false := beq_eq_false_iff_ne.2 h0
      have XX := Lib.hid (bB_no (show ¬ TxK (.mk kk items parts names cls levels code env) from fun e => e.elim h3 h0))
      go_enter Try.func29, Try.ntmps29
      go_wp2
      go_ret
      exact ⟨by rw [XX.out]; rfl, below1 _ _⟩
end Go.Proofs.Yteoalkjngkcheaa

/- Names that are given: the program. -/
namespace Go.Proofs.Yteoalkjngkcheaa
open Go.RowKit
set_option maxRecDepth 100000
set_option linter.unusedVariables false

/-- A row of empty texts with others laid over its beginning. -/
theorem TxZ.splicedA {w0 w1 w2 : World} {g n : Nat} {names : List ByteArray} (h : w1.ownsRow w0.heap.size 9 1 (.slice (some ⟨g, 0, none⟩) n n) n (List.replicate n (.string ⟨#[]⟩))) (hg : w2.heap[g]? = some (.cells (splice (List.replicate n (Value.string ⟨#[]⟩)) 0 (names.map Value.string)).toArray 9 (0, 0))) (hb : Below w0.heap.size w0 w2) (hl : names.length ≤ n) :
    TxZ w0 w2 (padT names n) (.slice (some ⟨g, 0, none⟩) n n) := by
  obtain ⟨_, ⟨e, _⟩ | ⟨g', cap, cur, e, hB, _, _, hm, _, _⟩⟩ := h
  · cases e
  · simp only [Value.slice.injEq, Option.some.injEq, Addr.mk.injEq, and_true, true_and] at e
    obtain ⟨rfl, rfl⟩ := e
    have e1 := padT_len names n
    have e2 : (splice (List.replicate n (Value.string ⟨#[]⟩)) 0 (names.map Value.string)) = (padT names n).map Value.string := by
      rw [padT_app hl]; unfold splice
      rw [List.take_zero, List.nil_append, Nat.zero_add, List.length_map, List.drop_replicate, List.map_append, List.map_replicate]
    rw [e2] at hg
    refine ⟨⟨by rw [List.length_map, Nat.mul_one], .inr ⟨g, n, _, by rw [e1], hB, hg, by rw [e1]; exact Nat.le_refl _, hm, by simp [e1], ?_⟩⟩, hb⟩
    rw [e1]
    simp only [Nat.mul_one]
    exact List.take_of_length_le (by rw [List.length_map, e1]; exact Nat.le_refl _)
theorem row_fullA {w : World} {base g n : Nat} {xs : List Value} (h : w.ownsRow base 9 1 (.slice (some ⟨g, 0, none⟩) n n) n xs) : w.heap[g]? = some (.cells xs.toArray 9 (0, 0)) := by
  obtain ⟨_, ⟨e, _⟩ | ⟨g', cap, cur, e, hB, hb, _, hm, hs, ht⟩⟩ := h
  · cases e
  · simp only [Value.slice.injEq, Option.some.injEq, Addr.mk.injEq, and_true, true_and] at e
    obtain ⟨rfl, rfl⟩ := e
    rw [hb, ← ht, List.take_of_length_le (by simp [hs])]
theorem made_textsA (n : Nat) : (madeCells #[Value.string ⟨#[]⟩] n).toList = List.replicate n (.string ⟨#[]⟩) := by
  apply List.ext_getElem
  · simp [madeCells]
  · intro i h1 h2
    simp [madeCells, Nat.mod_one]
theorem implLenT (d : Nat) (v : Vec) (val : Value) (lo hi : Nat) (w : World) (hv : VecAt lo hi w d v val) (hsm : Small d v) :
    Calls Try.prog 30 #[val] w fun e w' => e = .returned (.int .i64 ((lengthV v : Nat) : Int)) ∧ Below w.heap.size w w' := by
  obtain ⟨k, items, parts, names, cls, levels, code, env⟩ := v
  obtain ⟨d', ai, ci, ap, cp, an, cn, ac, cc, al, cl, ed, rfl, _⟩ := vecAt_open hv
  subst ed
  exact implLen k ai ap an ac al items.length ci parts.length cp names.length cn cls.length cc levels.length cl code env w hsm.1 hsm.2.1
set_option maxHeartbeats 4000000 in
theorem implLengthened (l : List ByteArray) (a : Option Addr) (c lo hi n : Nat) (w : World) (hT : TextsAt lo hi w a l) (hhi : hi ≤ w.heap.size) (hl : l.length ≤ n) (hn : n ≤ 1048576) :
    Calls Try.prog 33 #[.slice a l.length c, .int .i64 (n : Int)] w fun e w' => ∃ v, e = .returned v ∧ TxZ w w' (padT l n) v := by
  have XP := Lib.hid (fun (W : World) (hb : Below w.heap.size w W) (h0 : 0 < (l.map Value.string).length) => (by
    rw [List.length_map] at h0
    obtain ⟨b, off, e⟩ := texts_some hT h0
    exact ⟨⟨b, off, none⟩, e, by subst e; exact news_cells (hT.below hb hhi)⟩ : ∃ ad, a = some ad ∧ ∀ j v, (l.map Value.string)[j]? = some v → W.cell? (ad.add j) = some v))
  have LM := Lib.hid (show (l.map Value.string).length = Nat.min l.length n by rw [List.length_map]; exact (Nat.min_eq_left hl).symm)
  have LF := Lib.hid (show 0 + (l.map Value.string).length ≤ (List.replicate n (Value.string ⟨#[]⟩)).length by rw [List.length_map, List.length_replicate]; omega)
  have L1 := Lib.hid (show ∀ v ∈ l.map Value.string, v.oneCell' = true from fun v hv => by obtain ⟨_, _, rfl⟩ := List.mem_map.1 hv; rfl)
  have SP := Lib.hid (fun (w1 w2 : World) h hg hb => TxZ.splicedA (w0 := w) (w1 := w1) (w2 := w2) (g := w.heap.size) (n := n) (names := l) h hg hb hl)
  obtain ⟨CS, hCS⟩ : ∃ C, l.map Value.string = C := ⟨_, rfl⟩
  rw [hCS] at XP LM LF L1 SP
  obtain ⟨RS, hRS⟩ : ∃ C, List.replicate n (Value.string ⟨#[]⟩) = C := ⟨_, rfl⟩
  have MT := Lib.hid (made_textsA n)
  rw [hRS] at LF SP MT
  obtain ⟨PD, hPD⟩ : ∃ P, padT l n = P := ⟨_, rfl⟩
  rw [hPD] at SP ⊢
  obtain ⟨nn, hnn⟩ : ∃ x, l.length = x := ⟨_, rfl⟩
  rw [hnn] at LM ⊢
  clear hT hhi hl hCS hRS hPD hnn
  obtain ⟨i0, hi0, hz0, hz1, hz2⟩ := info_parts infoStr
  have BY := Lib.hid (show i0.bytes * n ≤ 281474976710656 by rw [hz2]; omega)
  go_enter Try.func33, Try.ntmps33
  go_wp2_with (at_make; go_loud (refine wpList_make_full _ rfl _ _ 24 rfl w.heap.size 9 i0 (.string ⟨#[]⟩) 1 Try.underlying24 hi0 hz0 hz1 .i64 .i64 (n : Int) (n : Int) n rfl rfl rfl rfl BY.out (by unfold maxLen; omega) (Nat.le_refl _) ?_))
  intro w1 hr1 hg1
  rw [MT.out] at hr1
  have R1 := Lib.hid hr1
  have B1 := Lib.hid (show Below w.heap.size w w1 from (Below.refl _ _).grown hg1 (Nat.le_refl _) (fun k e => by cases e))
  have HG := Lib.hid (row_fullA hr1)
  clear hr1 hg1
  go_wp2_with (refine wpList_copy_splice rfl _ _ 24 24 rfl 9 Try.underlying24 (by kernel_rfl) (some ⟨w.heap.size, 0, none⟩) a n n nn c rfl rfl w.heap.size 0 RS 9 HG.out CS LM.out (fun h0 => ⟨rfl, XP.out _ B1.out h0⟩) LF.out L1.out w.heap.size w B1.out (Nat.le_refl _) ?_)
  intro w2 hg2 hb2
  have T2 := Lib.hid (SP.out _ _ R1.out hg2 hb2)
  clear hg2 hb2
  go_wp2
  go_ret
  exact ⟨_, rfl, T2.out⟩
/-- Texts that may be read anywhere below the heap's end. -/
structure TxK5 (a : Option Addr) (l : List ByteArray) (w : World) : Prop where
  out : TextsAt 0 w.heap.size w a l
theorem TxK5.keep {a : Option Addr} {l : List ByteArray} {w w' : World} (h : TxK5 a l w) (hb : Below w.heap.size w w') : TxK5 a l w' := ⟨(h.out.below hb (Nat.le_refl _)).wide (Nat.zero_le _) hb.size⟩
structure OwnK5 (d : Nat) (v : Vec) (y : Value) (lo hi : Nat) (w : World) : Prop where
  out : Own d v y lo hi w
  le : hi ≤ w.heap.size
theorem OwnK5.keep {d : Nat} {v : Vec} {y : Value} {lo hi : Nat} {w w' : World} (h : OwnK5 d v y lo hi w) (hb : Below w.heap.size w w') : OwnK5 d v y lo hi w' := ⟨h.out.below hb h.le, Nat.le_trans h.le hb.size⟩
set_option maxHeartbeats 8000000 in
theorem implAssignNames (d d2 : Nat) (v u : Vec) (val valu : Value) (lo hi : Nat) (w : World) (hv : VecAt lo hi w d v val) (hu : VecAt lo hi w d2 u valu) (hhi : hi ≤ w.heap.size) (hsm : Small d v) (hsu : Small d2 u) :
    Calls Try.prog 9 #[val, valu] w (ResVS d (anV v u) (anS v u) w) := by
  have CT := Lib.hid (fun (W : World) (hb : Below w.heap.size w W) => implIsTx d2 u valu lo hi W (hu.below hb hhi))
  have TX := Lib.hid (fun (W : World) (hb : Below w.heap.size w W) => implTextsOf d2 u valu lo hi W (hu.below hb hhi) (Nat.le_trans hhi hb.size) hsu)
  have LV := Lib.hid (fun (W : World) (hb : Below w.heap.size w W) => implLenT d v val lo hi W (hv.below hb hhi) hsm)
  have LU := Lib.hid (fun (W : World) (hb : Below w.heap.size w W) => implLenT d2 u valu lo hi W (hu.below hb hhi) hsu)
  have CC := Lib.hid (fun (W : World) (hb : Below w.heap.size w W) => (icvAll d).out v val lo hi W (hv.below hb hhi) (Nat.le_trans hhi hb.size) hsm)
  have LQ := Lib.hid (fun (h1 : TxK u) (h2 : ValidV u) => (by
    obtain ⟨kk, items, parts, names, cls, levels, code, env⟩ := u
    have hf : FlatOk kk items parts.length names cls levels code env := h2.1.flat
    have h1 : kk = 3 ∨ kk = 0 := h1
    have h3 := hf.h_noParts (by omega)
    show lenV kk items.length parts.length = items.length
    unfold lenV; rw [if_neg (by omega)]; omega : lengthV u = (itemsV u).length))
  have L40 := Lib.hid (fun (h : ValidV v) => (h.1.flat.len : lengthV v ≤ 40))
  have XB := Lib.hid (fun h => an_bad (v := v) (w := u) h)
  have XE := Lib.hid (fun h h1 => an_el (v := v) (w := u) h h1)
  have XN := Lib.hid (fun h h1 h2 => an_no (v := v) (w := u) h h1 h2)
  have XY := Lib.hid (fun h h1 h2 => an_yes (v := v) (w := u) h h1 h2)
  have NM := Lib.hid (show NmGo v u ↔ TxK u ∧ (itemsV u).length ≤ lengthV v from Iff.rfl)
  have NE := Lib.hid (show NoEl v ↔ kindV v = 0 ∨ kindV v = 5 from Iff.rfl)
  have AN := Lib.hid (show anN v u = clnN (padT (txL (itemsV u)) (lengthV v)) from rfl)
  have LG := Lib.hid (fun (W : World) (a : Option Addr) (c : Nat) (hT : TextsAt 0 W.heap.size W a (txL (itemsV u))) (h : (itemsV u).length ≤ lengthV v) (h4 : lengthV v ≤ 40) => implLengthened (txL (itemsV u)) a c 0 W.heap.size (lengthV v) W hT (Nat.le_refl _) (by rw [txL_len]; exact h) (by omega))
  have CK := Lib.hid (fun (W : World) (a : Option Addr) (c : Nat) (hT : TextsAt 0 W.heap.size W a (padT (txL (itemsV u)) (lengthV v))) (h4 : lengthV v ≤ 40) => implKnownN (padT (txL (itemsV u)) (lengthV v)) a c 0 W.heap.size W hT (by rw [padT_len]; omega))
  obtain ⟨d', ed⟩ : ∃ d', d = d' + 1 := by
    cases v with
    | mk kk items parts names cls levels code env => obtain ⟨d', ai, ci, ap, cp, an, cn, ac, cc, al, cl, ed, _⟩ := vecAt_open hv; exact ⟨d', ed⟩
  subst ed
  obtain ⟨EV, hEV⟩ : ∃ y, anV v u = y := ⟨_, rfl⟩
  obtain ⟨ES, hES⟩ : ∃ y, anS v u = y := ⟨_, rfl⟩
  rw [hEV, hES] at XB XE XN XY ⊢
  have TL := Lib.hid (txL_len (itemsV u))
  obtain ⟨T, hT⟩ : ∃ T, txL (itemsV u) = T := ⟨_, rfl⟩
  rw [hT] at TX LG CK AN TL
  obtain ⟨L, hL'⟩ : ∃ x, lengthV v = x := ⟨_, rfl⟩
  obtain ⟨M, hM⟩ : ∃ x, lengthV u = x := ⟨_, rfl⟩
  rw [hL'] at LV LG CK L40 NM AN
  rw [hM] at LU LQ
  obtain ⟨P, hP'⟩ : ∃ P, padT T L = P := ⟨_, rfl⟩
  rw [hP'] at LG CK AN
  obtain ⟨VV, hVV⟩ : ∃ V, v = V := ⟨_, rfl⟩
  have KV : kindV v = kindV VV := by rw [hVV]
  have CA := Lib.hid (fun (a : Vec) (h : v = a) (x : Value) (g : Nat) (k1 : Int) (ai1 ap1 an1 ac1 al1 : Option Addr) (n1 ci1 np1 cp1 nn1 cn1 nc1 cc1 nl1 cl1 : Nat) (code1 env1 : Int) (k0 : Int) (ai0 ap0 an0 ac0 al0 : Option Addr) (n0 ci0 np0 cp0 nn0 cn0 nc0 cc0 nl0 cl0 : Nat) (code0 env0 : Int) (W : World) (e0 : val = .agg #[.int .i64 k0, .slice ai0 n0 ci0, .slice ap0 np0 cp0, .slice an0 nn0 cn0, .slice ac0 nc0 cc0, .slice al0 nl0 cl0, .int .i64 code0, .int .i64 env0]) (e1 : valu = .agg #[.int .i64 k1, .slice ai1 n1 ci1, .slice ap1 np1 cp1, .slice an1 nn1 cn1, .slice ac1 nc1 cc1, .slice al1 nl1 cl1, .int .i64 code1, .int .i64 env1]) (hb : Below w.heap.size w W)
    (hg : W.heap[g]? = some (.cells #[.int .i64 k0, .slice ai0 n0 ci0, .slice ap0 np0 cp0, .slice an0 nn0 cn0, .slice ac0 nc0 cc0, .slice al0 nl0 cl0, .int .i64 code0, .int .i64 env0, .int .i64 k1, .slice ai1 n1 ci1, .slice ap1 np1 cp1, .slice an1 nn1 cn1, .slice ac1 nc1 cc1, .slice al1 nl1 cl1, .int .i64 code1, .int .i64 env1] 31 (0, 0))) =>
    implAre (d' + 1) d2 v u k0 ai0 ap0 an0 ac0 al0 n0 ci0 np0 cp0 nn0 cn0 nc0 cc0 nl0 cl0 code0 env0 k1 ai1 ap1 an1 ac1 al1 n1 ci1 np1 cp1 nn1 cn1 nc1 cc1 nl1 cl1 code1 env1 g lo hi W ((e0 ▸ hv).below hb hhi) ((e1 ▸ hu).below hb hhi) (Nat.le_trans hhi hb.size) hsm hsu hg)
  obtain ⟨uk, ua1, un1, um1, ua2, un2, um2, ua3, un3, um3, ua4, un4, um4, ua5, un5, um5, uc, ue, hue⟩ := hu.agg
  obtain ⟨kk, items, parts, names, cls, levels, code, env⟩ := v
  obtain ⟨d'', ai, ci, ap, cp, an, cn, ac, cc, al, cl, ed, hve, _⟩ := vecAt_open hv
  have CV := Lib.hid (fun (g : Nat) (W : World) (hb : Below w.heap.size w W) hg => CA.out _ rfl val g uk ua1 ua2 ua3 ua4 ua5 un1 um1 un2 um2 un3 um3 un4 um4 un5 um5 uc ue kk ai ap an ac al items.length ci parts.length cp names.length cn cls.length cc levels.length cl code env W hve hue hb hg)
  have XK : kindV VV = kk := by rw [← KV]; rfl
  rw [hVV] at XB XE XN XY NM NE AN CC CV L40
  subst hve hue
  obtain ⟨v, hvn⟩ : ∃ v, VV = v := ⟨_, rfl⟩
  rw [hvn] at XB XE XN XY NM NE AN CC CV L40 XK
  clear hv hu hhi hsm hsu hEV hES hT hL' hM hP' hVV hvn KV CA ed
  go_enter Try.func9, Try.ntmps9
  go_wp2_with fail
  obtain ⟨w1, hw1⟩ : ∃ W, (((w.alloc (.cells #[.int .i64 kk, .slice ai items.length ci, .slice ap parts.length cp, .slice an names.length cn, .slice ac cls.length cc, .slice al levels.length cl, .int .i64 code, .int .i64 env] 31)).alloc (.cells #[.int .i64 uk, .slice ua1 un1 um1, .slice ua2 un2 um2, .slice ua3 un3 um3, .slice ua4 un4 um4, .slice ua5 un5 um5, .int .i64 uc, .int .i64 ue] 31)).alloc (.cells #[.int .i64 0, .slice none 0 0, .slice none 0 0, .slice none 0 0, .slice none 0 0, .slice none 0 0, .int .i64 0, .int .i64 0] 31)).alloc (.cells #[.int .i64 kk, .slice ai items.length ci, .slice ap parts.length cp, .slice an names.length cn, .slice ac cls.length cc, .slice al levels.length cl, .int .i64 code, .int .i64 env, .int .i64 uk, .slice ua1 un1 um1, .slice ua2 un2 um2, .slice ua3 un3 um3, .slice ua4 un4 um4, .slice ua5 un5 um5, .int .i64 uc, .int .i64 ue] 31) = W := ⟨_, rfl⟩
  have hs1 : (w.alloc (.cells #[.int .i64 kk, .slice ai items.length ci, .slice ap parts.length cp, .slice an names.length cn, .slice ac cls.length cc, .slice al levels.length cl, .int .i64 code, .int .i64 env] 31)).heap.size = w.heap.size + 1 := by simp
  have hs2 : ((w.alloc (.cells #[.int .i64 kk, .slice ai items.length ci, .slice ap parts.length cp, .slice an names.length cn, .slice ac cls.length cc, .slice al levels.length cl, .int .i64 code, .int .i64 env] 31)).alloc (.cells #[.int .i64 uk, .slice ua1 un1 um1, .slice ua2 un2 um2, .slice ua3 un3 um3, .slice ua4 un4 um4, .slice ua5 un5 um5, .int .i64 uc, .int .i64 ue] 31)).heap.size = w.heap.size + 1 + 1 := by simp
  have hs3 : (((w.alloc (.cells #[.int .i64 kk, .slice ai items.length ci, .slice ap parts.length cp, .slice an names.length cn, .slice ac cls.length cc, .slice al levels.length cl, .int .i64 code, .int .i64 env] 31)).alloc (.cells #[.int .i64 uk, .slice ua1 un1 um1, .slice ua2 un2 um2, .slice ua3 un3 um3, .slice ua4 un4 um4, .slice ua5 un5 um5, .int .i64 uc, .int .i64 ue] 31)).alloc (.cells #[.int .i64 0, .slice none 0 0, .slice none 0 0, .slice none 0 0, .slice none 0 0, .slice none 0 0, .int .i64 0, .int .i64 0] 31)).heap.size = w.heap.size + 1 + 1 + 1 := by simp
  have B1 := Lib.hid (show Below w.heap.size w w1 from hw1 ▸ ((((below1 w _).alloc (by simp) _).alloc (by simp; omega) _).alloc (by simp; omega) _))
  have KA := Lib.hid (show w1.heap[w.heap.size]? = some (.cells #[.int .i64 kk, .slice ai items.length ci, .slice ap parts.length cp, .slice an names.length cn, .slice ac cls.length cc, .slice al levels.length cl, .int .i64 code, .int .i64 env] 31 (0, 0)) from hw1 ▸ blk_old (blk_old (blk_old (blk_new w _ rfl))))
  have KB := Lib.hid (show w1.heap[(w.heap.size + 1)]? = some (.cells #[.int .i64 uk, .slice ua1 un1 um1, .slice ua2 un2 um2, .slice ua3 un3 um3, .slice ua4 un4 um4, .slice ua5 un5 um5, .int .i64 uc, .int .i64 ue] 31 (0, 0)) from hw1 ▸ blk_old (blk_old (hs1 ▸ blk_new (w.alloc (.cells #[.int .i64 kk, .slice ai items.length ci, .slice ap parts.length cp, .slice an names.length cn, .slice ac cls.length cc, .slice al levels.length cl, .int .i64 code, .int .i64 env] 31)) (.cells #[.int .i64 uk, .slice ua1 un1 um1, .slice ua2 un2 um2, .slice ua3 un3 um3, .slice ua4 un4 um4, .slice ua5 un5 um5, .int .i64 uc, .int .i64 ue] 31) rfl)))
  have KR := Lib.hid (show w1.heap[(w.heap.size + 1 + 1)]? = some (.cells #[.int .i64 0, .slice none 0 0, .slice none 0 0, .slice none 0 0, .slice none 0 0, .slice none 0 0, .int .i64 0, .int .i64 0] 31 (0, 0)) from hw1 ▸ blk_old (hs2 ▸ blk_new ((w.alloc (.cells #[.int .i64 kk, .slice ai items.length ci, .slice ap parts.length cp, .slice an names.length cn, .slice ac cls.length cc, .slice al levels.length cl, .int .i64 code, .int .i64 env] 31)).alloc (.cells #[.int .i64 uk, .slice ua1 un1 um1, .slice ua2 un2 um2, .slice ua3 un3 um3, .slice ua4 un4 um4, .slice ua5 un5 um5, .int .i64 uc, .int .i64 ue] 31)) (.cells #[.int .i64 0, .slice none 0 0, .slice none 0 0, .slice none 0 0, .slice none 0 0, .slice none 0 0, .int .i64 0, .int .i64 0] 31) rfl))
  have KG := Lib.hid (show w1.heap[(w.heap.size + 1 + 1 + 1)]? = some (.cells #[.int .i64 kk, .slice ai items.length ci, .slice ap parts.length cp, .slice an names.length cn, .slice ac cls.length cc, .slice al levels.length cl, .int .i64 code, .int .i64 env, .int .i64 uk, .slice ua1 un1 um1, .slice ua2 un2 um2, .slice ua3 un3 um3, .slice ua4 un4 um4, .slice ua5 un5 um5, .int .i64 uc, .int .i64 ue] 31 (0, 0)) from hw1 ▸ hs3 ▸ blk_new (((w.alloc (.cells #[.int .i64 kk, .slice ai items.length ci, .slice ap parts.length cp, .slice an names.length cn, .slice ac cls.length cc, .slice al levels.length cl, .int .i64 code, .int .i64 env] 31)).alloc (.cells #[.int .i64 uk, .slice ua1 un1 um1, .slice ua2 un2 um2, .slice ua3 un3 um3, .slice ua4 un4 um4, .slice ua5 un5 um5, .int .i64 uc, .int .i64 ue] 31)).alloc (.cells #[.int .i64 0, .slice none 0 0, .slice none 0 0, .slice none 0 0, .slice none 0 0, .slice none 0 0, .int .i64 0, .int .i64 0] 31)) (.cells #[.int .i64 kk, .slice ai items.length ci, .slice ap parts.length cp, .slice an names.length cn, .slice ac cls.length cc, .slice al levels.length cl, .int .i64 code, .int .i64 env, .int .i64 uk, .slice ua1 un1 um1, .slice ua2 un2 um2, .slice ua3 un3 um3, .slice ua4 un4 um4, .slice ua5 un5 um5, .int .i64 uc, .int .i64 ue] 31) rfl)
  have Z1 := Lib.hid (show w1.heap.size = w.heap.size + 1 + 1 + 1 + 1 from hw1 ▸ (by simp))
  rw [hw1]
  clear hw1 hs1 hs2 hs3
  with_reducible refine (CV.out _ _ B1.out KG.out).mono ?_
  rintro e w2 ⟨rfl, b⟩
  have B2 := Lib.hid (below_then B1.out b)
  have KA := Lib.hid (blk_below b KA.out)
  have KB := Lib.hid (blk_below b KB.out)
  have KR := Lib.hid (blk_below b KR.out)
  clear b KG CV
  by_cases q : ValidV v ∧ ValidV u
  · have XE := Lib.hid (fun h1 => XE.out q h1)
    have XN := Lib.hid (fun h1 h2 => XN.out q h1 h2)
    have XY := Lib.hid (fun h1 h2 => XY.out q h1 h2)
    have L40 := L40.out q.1
    have LQ := Lib.hid (fun h => LQ.out h q.2)
    have LG := Lib.hid (fun W a c hT h => LG.out W a c hT h L40)
    have CK := Lib.hid (fun W a c hT => CK.out W a c hT L40)
    rw [bB_yes q]
    clear q XB
    by_cases h0 : kk = 0
    · have XX := Lib.hid (XE.out (NE.out.2 (.inl (XK.trans h0))))
      subst h0
      obtain ⟨k0, k1, k2, k3, k4, k5, k6, k7⟩ := vec8 KA.out
      clear XE XN XY LG CK
      obtain ⟨z0, z1, z2, z3, z4, z5, z6, z7⟩ := vec8 KR.out
      obtain ⟨f0, f1, f2, f3, f4, f5, f6, f7⟩ := free8 KR.out
      go_wp2
      rw [XX.out.1, XX.out.2]
      exact vec_endS rfl rfl rfl rfl KR.out (zeroSA _ _ w _ (put8_below B2.out (by omega)))
    · have h0b : (kk == 0) = false := beq_eq_false_iff_ne.2 h0
      by_cases h5 : kk = 5
      · have XX := Lib.hid (XE.out (NE.out.2 (.inr (XK.trans h5))))
        subst h5
        obtain ⟨k0, k1, k2, k3, k4, k5, k6, k7⟩ := vec8 KA.out
        clear XE XN XY LG CK
        obtain ⟨z0, z1, z2, z3, z4, z5, z6, z7⟩ := vec8 KR.out
        obtain ⟨f0, f1, f2, f3, f4, f5, f6, f7⟩ := free8 KR.out
        go_wp2
        rw [XX.out.1, XX.out.2]
        exact vec_endS rfl rfl rfl rfl KR.out (zeroSA _ _ w _ (put8_below B2.out (by omega)))
      · have h5b : (kk == 5) = false := beq_eq_false_iff_ne.2 h5
        have hne : ¬ NoEl v := fun h => (NE.out.1 h).elim (fun e => h0 (XK.symm.trans e)) (fun e => h5 (XK.symm.trans e))
        have XN := Lib.hid (fun h2 => XN.out hne h2)
        have XY := Lib.hid (fun h2 => XY.out hne h2)
        clear hne XE NE XK h0 h5
        obtain ⟨k0, k1, k2, k3, k4, k5, k6, k7⟩ := vec8 KA.out
        by_cases qt : TxK u
        · rw [bB_yes qt] at CT
          have LQ := LQ.out qt
          rw [← LQ] at NM
          by_cases qm : M ≤ L
          · have XX := Lib.hid (XY.out (NM.out.2 ⟨qt, qm⟩))
            have LG := Lib.hid (fun W a c hT => LG.out W a c hT (LQ ▸ qm))
            have QM := qm
            clear NM qt XN XY LQ
            go_upto_region 5 with (fail)
            have NR := Lib.hid (⟨KR.out⟩ : NewB (w.heap.size + 1 + 1) 31 #[.int .i64 0, .slice none 0 0, .slice none 0 0, .slice none 0 0, .slice none 0 0, .slice none 0 0, .int .i64 0, .int .i64 0] w2)
            have H := Lib.hid (show HeldC w2 w2 ([(w.heap.size, 31, #[.int .i64 kk, .slice ai items.length ci, .slice ap parts.length cp, .slice an names.length cn, .slice ac cls.length cc, .slice al levels.length cl, .int .i64 code, .int .i64 env]), ((w.heap.size + 1), 31, #[.int .i64 uk, .slice ua1 un1 um1, .slice ua2 un2 um2, .slice ua3 un3 um3, .slice ua4 un4 um4, .slice ua5 un5 um5, .int .i64 uc, .int .i64 ue])]) from heldC_two (Below.refl _ _) KA.out KB.out)
            refine run_regionT (ops := (opsOf Try.f9 5)) (S := fun w' => HeldC w2 w' ([(w.heap.size, 31, #[.int .i64 kk, .slice ai items.length ci, .slice ap parts.length cp, .slice an names.length cn, .slice ac cls.length cc, .slice al levels.length cl, .int .i64 code, .int .i64 env]), ((w.heap.size + 1), 31, #[.int .i64 uk, .slice ua1 un1 um1, .slice ua2 un2 um2, .slice ua3 un3 um3, .slice ua4 un4 um4, .slice ua5 un5 um5, .int .i64 uc, .int .i64 ue])])) (.leaf [(0, true), (1, false), (2, true), (3, true), (4, true), (6, true), (5, false), (7, false), (8, true), (9, true), (10, true)]) (by kernel_rfl) (by kernel_rfl) (by kernel_rfl) (by kernel_rfl) (by kernel_rfl) (fun _ _ _ _ _ h => h) (heldC_drew H.out) ?_
            have H := Lib.hid (heldC_drew H.out)
            have NR := Lib.hid (NR.out.keep (below_drew' (Below.refl _ _)))
            refine runC_vec (b := (w.heap.size + 1)) (show opAt (opsOf Try.f9 5) 0 = some (some 25, .load 31 (.tmp 3), none) from by kernel_rfl) (by kernel_rfl) (by kernel_rfl) (by kernel_rfl) (List.Mem.tail _ (List.Mem.head _)) ?_
            refine run_call (args := [.agg #[.int .i64 uk, .slice ua1 un1 um1, .slice ua2 un2 um2, .slice ua3 un3 um3, .slice ua4 un4 um4, .slice ua5 un5 um5, .int .i64 uc, .int .i64 ue]]) (show opAt (opsOf Try.f9 5) 1 = some (some 26, .call { callee := .value (.func 29), args := [(.tmp 25)].toArray, argTypes := [31].toArray }, none) from by kernel_rfl) (by kernel_rfl) (by kernel_rfl) (by kernel_rfl) (by kernel_rfl) ?_
            refine (CT.out _ (below_then B2.out H.out.1)).mono ?_
            rintro en rw1 ⟨rfl, hb⟩
            refine ⟨_, rfl, heldC_call H.out hb, ?_⟩
            have H := Lib.hid (heldC_call H.out hb)
            have NR := Lib.hid (NR.out.keep hb)
            clear hb
            refine run_not (b := true) (show opAt (opsOf Try.f9 5) 2 = some (some 27, .unOp .not 4 (.tmp 26), none) from by kernel_rfl) (by kernel_rfl) (by kernel_rfl) (by kernel_rfl) ?_
            refine run_mov (v := .bool false) (show opAt (opsOf Try.f9 5) 3 = some (some 28, .move (.tmp 27), none) from by kernel_rfl) (by kernel_rfl) (by kernel_rfl) (by kernel_rfl) ?_
            refine runC_vec (b := (w.heap.size + 1)) (show opAt (opsOf Try.f9 5) 4 = some (some 29, .load 31 (.tmp 3), some (3, false)) from by kernel_rfl) (by kernel_rfl) (by kernel_rfl) (by kernel_rfl) (List.Mem.tail _ (List.Mem.head _)) ?_
            refine runC_vec (b := w.heap.size) (show opAt (opsOf Try.f9 5) 6 = some (some 31, .load 31 (.tmp 2), some (3, false)) from by kernel_rfl) (by kernel_rfl) (by kernel_rfl) (by kernel_rfl) (List.Mem.head _) ?_
            refine run_call (args := [.agg #[.int .i64 uk, .slice ua1 un1 um1, .slice ua2 un2 um2, .slice ua3 un3 um3, .slice ua4 un4 um4, .slice ua5 un5 um5, .int .i64 uc, .int .i64 ue]]) (show opAt (opsOf Try.f9 5) 5 = some (some 30, .call { callee := .value (.func 30), args := [(.tmp 29)].toArray, argTypes := [31].toArray }, some (3, false)) from by kernel_rfl) (by kernel_rfl) (by kernel_rfl) (by kernel_rfl) (by kernel_rfl) ?_
            refine (LU.out _ (below_then B2.out H.out.1)).mono ?_
            rintro en rw2 ⟨rfl, hb⟩
            refine ⟨_, rfl, heldC_call H.out hb, ?_⟩
            have H := Lib.hid (heldC_call H.out hb)
            have NR := Lib.hid (NR.out.keep hb)
            clear hb
            refine run_call (args := [.agg #[.int .i64 kk, .slice ai items.length ci, .slice ap parts.length cp, .slice an names.length cn, .slice ac cls.length cc, .slice al levels.length cl, .int .i64 code, .int .i64 env]]) (show opAt (opsOf Try.f9 5) 7 = some (some 32, .call { callee := .value (.func 30), args := [(.tmp 31)].toArray, argTypes := [31].toArray }, some (3, false)) from by kernel_rfl) (by kernel_rfl) (by kernel_rfl) (by kernel_rfl) (by kernel_rfl) ?_
            refine (LV.out _ (below_then B2.out H.out.1)).mono ?_
            rintro en rw3 ⟨rfl, hb⟩
            refine ⟨_, rfl, heldC_call H.out hb, ?_⟩
            have H := Lib.hid (heldC_call H.out hb)
            have NR := Lib.hid (NR.out.keep hb)
            clear hb
            refine run_cmp (k := .i64) (p := (M : Int)) (q := (L : Int)) (b := false) (show opAt (opsOf Try.f9 5) 8 = some (some 33, .binOp .gtr 3 (.tmp 30) (.tmp 32) 3, some (3, false)) from by kernel_rfl) (by kernel_rfl) (by kernel_rfl) (by kernel_rfl) (by kernel_rfl) (congrArg some (decide_eq_false (by omega))) ?_
            refine run_pick (b := false) (v := .bool false) (show opAt (opsOf Try.f9 5) 9 = some (some 34, .pick (.tmp 28) (.const (.bool true)) (.tmp 33), none) from by kernel_rfl) (by kernel_rfl) (by kernel_rfl) (by kernel_rfl) (by kernel_rfl) ?_
            refine run_asg (v := .bool false) (show opAt (opsOf Try.f9 5) 10 = some (some 24, .assign (.tmp 34), none) from by kernel_rfl) (by kernel_rfl) (by kernel_rfl) (by kernel_rfl) ?_
            refine run_done ?_
            simp only [putAll, Act.put, List.setIfInBounds_toArray, List.set_cons_zero, List.set_cons_succ]
            clear k0 k1 k2 k3 k4 k5 k6 k7
            obtain ⟨w3, hw3⟩ : ∃ W, rw3 = W := ⟨_, rfl⟩
            rw [hw3] at H NR ⊢
            clear hw3 qm QM
            have KA := Lib.hid (heldC_at H.out (List.Mem.head _))
            have KB := Lib.hid (heldC_at H.out (List.Mem.tail _ (List.Mem.head _)))
            have KR := Lib.hid NR.out.out
            have B3 := Lib.hid (below_then B2.out H.out.1)
            clear H NR
            obtain ⟨k0, k1, k2, k3, k4, k5, k6, k7⟩ := vec8 KA.out
            go_wp2_with fail
            refine (CC.out _ B3.out).mono ?_
            rintro e w4 ⟨y, rfl, ho, b⟩
            obtain ⟨yk, ya1, yn1, ym1, ya2, yn2, ym2, ya3, yn3, ym3, ya4, yn4, ym4, ya5, yn5, ym5, yc, ye, rfl⟩ := ho.agg
            have L3 := Lib.hid B3.out.size
            have hr6 := (Array.getElem?_eq_some_iff.1 KR.out).1
            have B4 := Lib.hid (below_then B3.out b)
            have HO := Lib.hid ho
            have S4 := Lib.hid b.size
            have KA := Lib.hid (blk_below b KA.out)
            have KB := Lib.hid (blk_below b KB.out)
            have KR := Lib.hid (blk_below b KR.out)
            clear b ho k0 k1 k2 k3 k4 k5 k6 k7 CC
            go_upto_region 8 with (fail)
            obtain ⟨w5, hw5⟩ : ∃ W, w4.alloc (.cells #[.int .i64 yk, .slice ya1 yn1 ym1, .slice ya2 yn2 ym2, .slice ya3 yn3 ym3, .slice ya4 yn4 ym4, .slice ya5 yn5 ym5, .int .i64 yc, .int .i64 ye] 31) = W := ⟨_, rfl⟩
            have KX := Lib.hid (show w5.heap[w4.heap.size]? = some (.cells #[.int .i64 yk, .slice ya1 yn1 ym1, .slice ya2 yn2 ym2, .slice ya3 yn3 ym3, .slice ya4 yn4 ym4, .slice ya5 yn5 ym5, .int .i64 yc, .int .i64 ye] 31 (0, 0)) from hw5 ▸ blk_new w4 _ rfl)
            have KA := Lib.hid (show w5.heap[w.heap.size]? = some (.cells #[.int .i64 kk, .slice ai items.length ci, .slice ap parts.length cp, .slice an names.length cn, .slice ac cls.length cc, .slice al levels.length cl, .int .i64 code, .int .i64 env] 31 (0, 0)) from hw5 ▸ blk_old KA.out)
            have KB := Lib.hid (show w5.heap[(w.heap.size + 1)]? = some (.cells #[.int .i64 uk, .slice ua1 un1 um1, .slice ua2 un2 um2, .slice ua3 un3 um3, .slice ua4 un4 um4, .slice ua5 un5 um5, .int .i64 uc, .int .i64 ue] 31 (0, 0)) from hw5 ▸ blk_old KB.out)
            have KR := Lib.hid (show w5.heap[(w.heap.size + 1 + 1)]? = some (.cells #[.int .i64 0, .slice none 0 0, .slice none 0 0, .slice none 0 0, .slice none 0 0, .slice none 0 0, .int .i64 0, .int .i64 0] 31 (0, 0)) from hw5 ▸ blk_old KR.out)
            have B5 := Lib.hid (show Below w.heap.size w w5 from hw5 ▸ B4.out.alloc B4.out.size _)
            have S5 := Lib.hid (show w5.heap.size = w4.heap.size + 1 from hw5 ▸ (by simp))
            have HO := Lib.hid (show Own (d' + 1) v (.agg #[.int .i64 yk, .slice ya1 yn1 ym1, .slice ya2 yn2 ym2, .slice ya3 yn3 ym3, .slice ya4 yn4 ym4, .slice ya5 yn5 ym5, .int .i64 yc, .int .i64 ye]) w3.heap.size w4.heap.size w5 from hw5 ▸ HO.out.below (below1 w4 _) (Nat.le_refl _))
            rw [hw5]
            clear hw5
            obtain ⟨bx, hbx⟩ : ∃ b, w4.heap.size = b := ⟨_, rfl⟩
            rw [hbx] at KX HO S5 S4 ⊢
            clear hbx B4
            have NR := Lib.hid (⟨KR.out⟩ : NewB (w.heap.size + 1 + 1) 31 #[.int .i64 0, .slice none 0 0, .slice none 0 0, .slice none 0 0, .slice none 0 0, .slice none 0 0, .int .i64 0, .int .i64 0] w5)
            have HY := Lib.hid (⟨HO.out, by have := S5.out; omega⟩ : OwnK5 (d' + 1) v (.agg #[.int .i64 yk, .slice ya1 yn1 ym1, .slice ya2 yn2 ym2, .slice ya3 yn3 ym3, .slice ya4 yn4 ym4, .slice ya5 yn5 ym5, .int .i64 yc, .int .i64 ye]) w3.heap.size bx w5)
            have H := Lib.hid (show HeldC w5 w5 ([(w.heap.size, 31, #[.int .i64 kk, .slice ai items.length ci, .slice ap parts.length cp, .slice an names.length cn, .slice ac cls.length cc, .slice al levels.length cl, .int .i64 code, .int .i64 env]), ((w.heap.size + 1), 31, #[.int .i64 uk, .slice ua1 un1 um1, .slice ua2 un2 um2, .slice ua3 un3 um3, .slice ua4 un4 um4, .slice ua5 un5 um5, .int .i64 uc, .int .i64 ue]), (bx, 31, #[.int .i64 yk, .slice ya1 yn1 ym1, .slice ya2 yn2 ym2, .slice ya3 yn3 ym3, .slice ya4 yn4 ym4, .slice ya5 yn5 ym5, .int .i64 yc, .int .i64 ye])]) from heldC_cons (heldC_two (Below.refl _ _) KB.out KX.out) KA.out)
            clear HO
            by_cases hex : ∃ i, i < P.length ∧ (P.getD i ⟨#[]⟩).size ≠ 0
            · have AN := AN.out.trans (clnN_yes hex)
              have XX := Lib.hid (by have h := XX.out; rw [AN] at h; exact h)
              have EP := clnN_yes hex
              have CK := Lib.hid (fun (W : World) (a : Option Addr) (c : Nat) (hT : TextsAt 0 W.heap.size W a P) => (CK.out W a c hT).mono (fun e w' (h : _) => (show e = .returned (.slice a P.length c) ∧ W = w' from ⟨h.1.elim (fun q => q.2) (fun q => by obtain ⟨i, h1, h2⟩ := hex; have e := q.1; rw [EP] at e; rw [e] at h1; cases h1), h.2⟩)))
              clear hex EP AN
              refine run_regionT (ops := (opsOf Try.f9 8)) (S := fun w' => HeldC w5 w' ([(w.heap.size, 31, #[.int .i64 kk, .slice ai items.length ci, .slice ap parts.length cp, .slice an names.length cn, .slice ac cls.length cc, .slice al levels.length cl, .int .i64 code, .int .i64 env]), ((w.heap.size + 1), 31, #[.int .i64 uk, .slice ua1 un1 um1, .slice ua2 un2 um2, .slice ua3 un3 um3, .slice ua4 un4 um4, .slice ua5 un5 um5, .int .i64 uc, .int .i64 ue]), (bx, 31, #[.int .i64 yk, .slice ya1 yn1 ym1, .slice ya2 yn2 ym2, .slice ya3 yn3 ym3, .slice ya4 yn4 ym4, .slice ya5 yn5 ym5, .int .i64 yc, .int .i64 ye])])) (.leaf [(0, true), (2, true), (1, false), (3, false), (4, false), (5, false), (6, true), (7, false)]) (by kernel_rfl) (by kernel_rfl) (by kernel_rfl) (by kernel_rfl) (by kernel_rfl) (fun _ _ _ _ _ h => h) (heldC_drew H.out) ?_
              have H := Lib.hid (heldC_drew H.out)
              have NR := Lib.hid (NR.out.keep (below_drew' (Below.refl _ _)))
              have HY := Lib.hid (HY.out.keep (below_drew' (Below.refl _ _)))
              refine runC_vec (b := (w.heap.size + 1)) (show opAt (opsOf Try.f9 8) 0 = some (some 38, .load 31 (.tmp 3), none) from by kernel_rfl) (by kernel_rfl) (by kernel_rfl) (by kernel_rfl) (List.Mem.tail _ (List.Mem.head _)) ?_
              refine runC_vec (b := w.heap.size) (show opAt (opsOf Try.f9 8) 2 = some (some 40, .load 31 (.tmp 2), none) from by kernel_rfl) (by kernel_rfl) (by kernel_rfl) (by kernel_rfl) (List.Mem.head _) ?_
              refine run_call (args := [.agg #[.int .i64 uk, .slice ua1 un1 um1, .slice ua2 un2 um2, .slice ua3 un3 um3, .slice ua4 un4 um4, .slice ua5 un5 um5, .int .i64 uc, .int .i64 ue]]) (show opAt (opsOf Try.f9 8) 1 = some (some 39, .call { callee := .value (.func 34), args := [(.tmp 38)].toArray, argTypes := [31].toArray }, none) from by kernel_rfl) (by kernel_rfl) (by kernel_rfl) (by kernel_rfl) (by kernel_rfl) ?_
              refine (TX.out _ (below_then B5.out H.out.1)).mono ?_
              rintro en rw1 ⟨v6, rfl, tz⟩
              obtain ⟨sc, qc, Fc, rfl, hot, _, hrg, hqc⟩ := txs_of_row tz.row
              refine ⟨_, rfl, heldC_call H.out tz.below, ?_⟩
              have H := Lib.hid (heldC_call H.out tz.below)
              have HT := Lib.hid (⟨hot.at_ (fun b hb => ⟨Nat.zero_le _, (hrg b hb).2⟩)⟩ : TxK5 sc T _)
              have NR := Lib.hid (NR.out.keep tz.below)
              have HY := Lib.hid (HY.out.keep tz.below)
              clear tz hot hrg hqc
              refine run_call (args := [.agg #[.int .i64 kk, .slice ai items.length ci, .slice ap parts.length cp, .slice an names.length cn, .slice ac cls.length cc, .slice al levels.length cl, .int .i64 code, .int .i64 env]]) (show opAt (opsOf Try.f9 8) 3 = some (some 41, .call { callee := .value (.func 30), args := [(.tmp 40)].toArray, argTypes := [31].toArray }, none) from by kernel_rfl) (by kernel_rfl) (by kernel_rfl) (by kernel_rfl) (by kernel_rfl) ?_
              refine (LV.out _ (below_then B5.out H.out.1)).mono ?_
              rintro en rw2 ⟨rfl, hb⟩
              refine ⟨_, rfl, heldC_call H.out hb, ?_⟩
              have H := Lib.hid (heldC_call H.out hb)
              have NR := Lib.hid (NR.out.keep hb)
              have HY := Lib.hid (HY.out.keep hb)
              (try have HT := Lib.hid (HT.out.keep hb))
              clear hb
              refine run_call (args := [.slice sc T.length qc, .int .i64 ((L : Int))]) (show opAt (opsOf Try.f9 8) 4 = some (some 42, .call { callee := .value (.func 33), args := [(.tmp 39), (.tmp 41)].toArray, argTypes := [24, 3].toArray }, none) from by kernel_rfl) (by kernel_rfl) (by kernel_rfl) (by kernel_rfl) (by kernel_rfl) ?_
              refine (LG.out _ sc qc HT.out.out).mono ?_
              rintro en rw3 ⟨v7, rfl, tz⟩
              obtain ⟨sd, qd, Fd, rfl, hot, _, hrg, hqd⟩ := txs_of_row tz.row
              refine ⟨_, rfl, heldC_call H.out tz.below, ?_⟩
              have SB := Lib.hid H.out.1.size
              have H := Lib.hid (heldC_call H.out tz.below)
              have HP := Lib.hid tz
              have HPT := Lib.hid (hot.at_ (fun b hb => ⟨Nat.zero_le _, (hrg b hb).2⟩))
              have NR := Lib.hid (NR.out.keep tz.below)
              have HY := Lib.hid (HY.out.keep tz.below)
              clear tz hot hrg hqd
              refine run_call (args := [.slice sd P.length qd]) (show opAt (opsOf Try.f9 8) 5 = some (some 43, .call { callee := .value (.func 32), args := [(.tmp 42)].toArray, argTypes := [24].toArray }, none) from by kernel_rfl) (by kernel_rfl) (by kernel_rfl) (by kernel_rfl) (by kernel_rfl) ?_
              refine (CK.out _ sd qd HPT.out).mono ?_
              rintro en rw4 ⟨rfl, rfl⟩
              refine ⟨_, rfl, H.out, ?_⟩
              refine runC_partV (b := bx) (by kernel_rfl) (show opAt (opsOf Try.f9 8) 6 = some (some 44, .fieldAddr 31 (.tmp 6) 3, none) from by kernel_rfl) (by kernel_rfl) (by kernel_rfl) (by kernel_rfl) ?_
              refine run_last (by kernel_rfl) (show opAt (opsOf Try.f9 8) 7 = some (none, .store 24 (.tmp 44) (.tmp 43), none) from by kernel_rfl) (by kernel_rfl) (by kernel_rfl) (by kernel_rfl) (store_strs (p := ⟨bx, 3, none⟩) (s := sd) (n := P.length) (c := qd) ⟨_, cellOf (i := 3) (heldC_at H.out (List.Mem.tail _ (List.Mem.tail _ (List.Mem.head _)))) rfl⟩ (freeOf (heldC_at H.out (List.Mem.tail _ (List.Mem.tail _ (List.Mem.head _)))))) ?_
              refine run_done ?_
              simp only [putAll, Act.put, List.setIfInBounds_toArray, List.set_cons_zero, List.set_cons_succ]
              have KX := Lib.hid (heldC_at H.out (List.Mem.tail _ (List.Mem.tail _ (List.Mem.head _))))
              have B8 := Lib.hid (below_then B5.out H.out.1)
              have KR := Lib.hid NR.out.out
              have hxr : w.heap.size + 1 + 1 < bx := by have := S4.out; omega
              obtain ⟨wz, hw⟩ : ∃ W, World.setCell rw3 ⟨bx, 3, none⟩ (.slice sd P.length qd) = W := ⟨_, rfl⟩
              have KX := Lib.hid (show wz.heap[bx]? = some (.cells #[.int .i64 yk, .slice ya1 yn1 ym1, .slice ya2 yn2 ym2, .slice sd P.length qd, .slice ya4 yn4 ym4, .slice ya5 yn5 ym5, .int .i64 yc, .int .i64 ye] 31 (0, 0)) from hw ▸ Joins.block_setCell KX.out _)
              have KR := Lib.hid (show wz.heap[(w.heap.size + 1 + 1)]? = some (.cells #[.int .i64 0, .slice none 0 0, .slice none 0 0, .slice none 0 0, .slice none 0 0, .slice none 0 0, .int .i64 0, .int .i64 0] 31 (0, 0)) from hw ▸ (Below.heap_setCell _ _ _ _ (show (w.heap.size + 1 + 1) ≠ bx by omega)).trans KR.out)
              have B9 := Lib.hid (show Below w.heap.size w wz from hw ▸ B8.out.setCell (p := ⟨bx, 3, none⟩) (show w.heap.size ≤ bx by omega) _)
              have HO := Lib.hid (show Own (d' + 1) v (.agg #[.int .i64 yk, .slice ya1 yn1 ym1, .slice ya2 yn2 ym2, .slice ya3 yn3 ym3, .slice ya4 yn4 ym4, .slice ya5 yn5 ym5, .int .i64 yc, .int .i64 ye]) w3.heap.size bx wz from hw ▸ HY.out.out.setOut (Nat.le_refl _))
              have TR := Lib.hid (ownsRow_kept HP.out.row (w' := wz) (fun g hg => hw ▸ Below.heap_setCell _ _ _ _ (show g ≠ bx by have h1 := (HP.out.row.lt g hg).1; have := SB.out; have := S5.out; omega)))
              rw [hw]
              clear hw H
              obtain ⟨sd', qd', Fd', e, hot, hnd, hrg, hqd⟩ := txs_of_row TR.out
              cases e
              have HX := Lib.hid (show Own (d' + 1) (setN v P) (.agg #[.int .i64 yk, .slice ya1 yn1 ym1, .slice ya2 yn2 ym2, .slice sd P.length qd, .slice ya4 yn4 ym4, .slice ya5 yn5 ym5, .int .i64 yc, .int .i64 ye]) w3.heap.size wz.heap.size wz from by
                have h := HO.out
                cases v with
                | mk kk items parts names cls levels code env => exact Own.setN h hot hnd hrg hqd (by have := SB.out; have := S5.out; omega) (by have := SB.out; have := S5.out; have := S4.out; omega) (by have := (Array.getElem?_eq_some_iff.1 KX.out).1; omega))
              clear hot hnd hrg hqd HO TR
              obtain ⟨k0, k1, k2, k3, k4, k5, k6, k7⟩ := vec8 KX.out
              obtain ⟨z0, z1, z2, z3, z4, z5, z6, z7⟩ := vec8 KR.out
              obtain ⟨f0, f1, f2, f3, f4, f5, f6, f7⟩ := free8 KR.out
              go_wp2
              rw [XX.out.1, XX.out.2]
              exact vec_endS rfl rfl rfl rfl KR.out ⟨_, rfl, (HX.out.put8 hr6 _ _ _ _ _ _ _ _).wide L3.out (by rw [put8_size]; exact Nat.le_refl _), put8_below B9.out (by omega)⟩
            · have AN := AN.out.trans (clnN_no hex)
              have XX := Lib.hid (by have h := XX.out; rw [AN] at h; exact h)
              have CK := Lib.hid (fun (W : World) (a : Option Addr) (c : Nat) (hT : TextsAt 0 W.heap.size W a P) => (CK.out W a c hT).mono (fun e w' (h : _) => (show ∃ ka kc, e = .returned (.slice ka 0 kc) ∧ W = w' from h.1.elim (fun q => by have e := q.1; rw [clnN_no hex] at e; exact ⟨a, c, by rw [q.2, ← e]; rfl, h.2⟩) (fun q => ⟨none, 0, q.2, h.2⟩))))
              clear hex AN
              refine run_regionT (ops := (opsOf Try.f9 8)) (S := fun w' => HeldC w5 w' ([(w.heap.size, 31, #[.int .i64 kk, .slice ai items.length ci, .slice ap parts.length cp, .slice an names.length cn, .slice ac cls.length cc, .slice al levels.length cl, .int .i64 code, .int .i64 env]), ((w.heap.size + 1), 31, #[.int .i64 uk, .slice ua1 un1 um1, .slice ua2 un2 um2, .slice ua3 un3 um3, .slice ua4 un4 um4, .slice ua5 un5 um5, .int .i64 uc, .int .i64 ue]), (bx, 31, #[.int .i64 yk, .slice ya1 yn1 ym1, .slice ya2 yn2 ym2, .slice ya3 yn3 ym3, .slice ya4 yn4 ym4, .slice ya5 yn5 ym5, .int .i64 yc, .int .i64 ye])])) (.leaf [(0, true), (2, true), (1, false), (3, false), (4, false), (5, false), (6, true), (7, false)]) (by kernel_rfl) (by kernel_rfl) (by kernel_rfl) (by kernel_rfl) (by kernel_rfl) (fun _ _ _ _ _ h => h) (heldC_drew H.out) ?_
              have H := Lib.hid (heldC_drew H.out)
              have NR := Lib.hid (NR.out.keep (below_drew' (Below.refl _ _)))
              have HY := Lib.hid (HY.out.keep (below_drew' (Below.refl _ _)))
              refine runC_vec (b := (w.heap.size + 1)) (show opAt (opsOf Try.f9 8) 0 = some (some 38, .load 31 (.tmp 3), none) from by kernel_rfl) (by kernel_rfl) (by kernel_rfl) (by kernel_rfl) (List.Mem.tail _ (List.Mem.head _)) ?_
              refine runC_vec (b := w.heap.size) (show opAt (opsOf Try.f9 8) 2 = some (some 40, .load 31 (.tmp 2), none) from by kernel_rfl) (by kernel_rfl) (by kernel_rfl) (by kernel_rfl) (List.Mem.head _) ?_
              refine run_call (args := [.agg #[.int .i64 uk, .slice ua1 un1 um1, .slice ua2 un2 um2, .slice ua3 un3 um3, .slice ua4 un4 um4, .slice ua5 un5 um5, .int .i64 uc, .int .i64 ue]]) (show opAt (opsOf Try.f9 8) 1 = some (some 39, .call { callee := .value (.func 34), args := [(.tmp 38)].toArray, argTypes := [31].toArray }, none) from by kernel_rfl) (by kernel_rfl) (by kernel_rfl) (by kernel_rfl) (by kernel_rfl) ?_
              refine (TX.out _ (below_then B5.out H.out.1)).mono ?_
              rintro en rw1 ⟨v6, rfl, tz⟩
              obtain ⟨sc, qc, Fc, rfl, hot, _, hrg, hqc⟩ := txs_of_row tz.row
              refine ⟨_, rfl, heldC_call H.out tz.below, ?_⟩
              have H := Lib.hid (heldC_call H.out tz.below)
              have HT := Lib.hid (⟨hot.at_ (fun b hb => ⟨Nat.zero_le _, (hrg b hb).2⟩)⟩ : TxK5 sc T _)
              have NR := Lib.hid (NR.out.keep tz.below)
              have HY := Lib.hid (HY.out.keep tz.below)
              clear tz hot hrg hqc
              refine run_call (args := [.agg #[.int .i64 kk, .slice ai items.length ci, .slice ap parts.length cp, .slice an names.length cn, .slice ac cls.length cc, .slice al levels.length cl, .int .i64 code, .int .i64 env]]) (show opAt (opsOf Try.f9 8) 3 = some (some 41, .call { callee := .value (.func 30), args := [(.tmp 40)].toArray, argTypes := [31].toArray }, none) from by kernel_rfl) (by kernel_rfl) (by kernel_rfl) (by kernel_rfl) (by kernel_rfl) ?_
              refine (LV.out _ (below_then B5.out H.out.1)).mono ?_
              rintro en rw2 ⟨rfl, hb⟩
              refine ⟨_, rfl, heldC_call H.out hb, ?_⟩
              have H := Lib.hid (heldC_call H.out hb)
              have NR := Lib.hid (NR.out.keep hb)
              have HY := Lib.hid (HY.out.keep hb)
              (try have HT := Lib.hid (HT.out.keep hb))
              clear hb
              refine run_call (args := [.slice sc T.length qc, .int .i64 ((L : Int))]) (show opAt (opsOf Try.f9 8) 4 = some (some 42, .call { callee := .value (.func 33), args := [(.tmp 39), (.tmp 41)].toArray, argTypes := [24, 3].toArray }, none) from by kernel_rfl) (by kernel_rfl) (by kernel_rfl) (by kernel_rfl) (by kernel_rfl) ?_
              refine (LG.out _ sc qc HT.out.out).mono ?_
              rintro en rw3 ⟨v7, rfl, tz⟩
              obtain ⟨sd, qd, Fd, rfl, hot, _, hrg, hqd⟩ := txs_of_row tz.row
              refine ⟨_, rfl, heldC_call H.out tz.below, ?_⟩
              have SB := Lib.hid H.out.1.size
              have H := Lib.hid (heldC_call H.out tz.below)
              have HP := Lib.hid tz
              have HPT := Lib.hid (hot.at_ (fun b hb => ⟨Nat.zero_le _, (hrg b hb).2⟩))
              have NR := Lib.hid (NR.out.keep tz.below)
              have HY := Lib.hid (HY.out.keep tz.below)
              clear tz hot hrg hqd
              refine run_call (args := [.slice sd P.length qd]) (show opAt (opsOf Try.f9 8) 5 = some (some 43, .call { callee := .value (.func 32), args := [(.tmp 42)].toArray, argTypes := [24].toArray }, none) from by kernel_rfl) (by kernel_rfl) (by kernel_rfl) (by kernel_rfl) (by kernel_rfl) ?_
              refine (CK.out _ sd qd HPT.out).mono ?_
              rintro en rw4 ⟨ka, kc, rfl, rfl⟩
              refine ⟨_, rfl, H.out, ?_⟩
              refine runC_partV (b := bx) (by kernel_rfl) (show opAt (opsOf Try.f9 8) 6 = some (some 44, .fieldAddr 31 (.tmp 6) 3, none) from by kernel_rfl) (by kernel_rfl) (by kernel_rfl) (by kernel_rfl) ?_
              refine run_last (by kernel_rfl) (show opAt (opsOf Try.f9 8) 7 = some (none, .store 24 (.tmp 44) (.tmp 43), none) from by kernel_rfl) (by kernel_rfl) (by kernel_rfl) (by kernel_rfl) (store_strs (p := ⟨bx, 3, none⟩) (s := ka) (n := 0) (c := kc) ⟨_, cellOf (i := 3) (heldC_at H.out (List.Mem.tail _ (List.Mem.tail _ (List.Mem.head _)))) rfl⟩ (freeOf (heldC_at H.out (List.Mem.tail _ (List.Mem.tail _ (List.Mem.head _)))))) ?_
              refine run_done ?_
              simp only [putAll, Act.put, List.setIfInBounds_toArray, List.set_cons_zero, List.set_cons_succ]
              have KX := Lib.hid (heldC_at H.out (List.Mem.tail _ (List.Mem.tail _ (List.Mem.head _))))
              have B8 := Lib.hid (below_then B5.out H.out.1)
              have KR := Lib.hid NR.out.out
              have hxr : w.heap.size + 1 + 1 < bx := by have := S4.out; omega
              obtain ⟨wz, hw⟩ : ∃ W, World.setCell rw3 ⟨bx, 3, none⟩ (.slice ka 0 kc) = W := ⟨_, rfl⟩
              have KX := Lib.hid (show wz.heap[bx]? = some (.cells #[.int .i64 yk, .slice ya1 yn1 ym1, .slice ya2 yn2 ym2, .slice ka 0 kc, .slice ya4 yn4 ym4, .slice ya5 yn5 ym5, .int .i64 yc, .int .i64 ye] 31 (0, 0)) from hw ▸ Joins.block_setCell KX.out _)
              have KR := Lib.hid (show wz.heap[(w.heap.size + 1 + 1)]? = some (.cells #[.int .i64 0, .slice none 0 0, .slice none 0 0, .slice none 0 0, .slice none 0 0, .slice none 0 0, .int .i64 0, .int .i64 0] 31 (0, 0)) from hw ▸ (Below.heap_setCell _ _ _ _ (show (w.heap.size + 1 + 1) ≠ bx by omega)).trans KR.out)
              have B9 := Lib.hid (show Below w.heap.size w wz from hw ▸ B8.out.setCell (p := ⟨bx, 3, none⟩) (show w.heap.size ≤ bx by omega) _)
              have HO := Lib.hid (show Own (d' + 1) v (.agg #[.int .i64 yk, .slice ya1 yn1 ym1, .slice ya2 yn2 ym2, .slice ya3 yn3 ym3, .slice ya4 yn4 ym4, .slice ya5 yn5 ym5, .int .i64 yc, .int .i64 ye]) w3.heap.size bx wz from hw ▸ HY.out.out.setOut (Nat.le_refl _))
              rw [hw]
              clear hw H
              have HX := Lib.hid (show Own (d' + 1) (setN v []) (.agg #[.int .i64 yk, .slice ya1 yn1 ym1, .slice ya2 yn2 ym2, .slice ka 0 kc, .slice ya4 yn4 ym4, .slice ya5 yn5 ym5, .int .i64 yc, .int .i64 ye]) w3.heap.size wz.heap.size wz from by
                have h := HO.out.wide (Nat.le_refl _) (Nat.le_of_lt (Array.getElem?_eq_some_iff.1 KX.out).1)
                cases v with
                | mk kk items parts names cls levels code env => exact Own.noNames h ka kc)
              clear HO
              obtain ⟨k0, k1, k2, k3, k4, k5, k6, k7⟩ := vec8 KX.out
              obtain ⟨z0, z1, z2, z3, z4, z5, z6, z7⟩ := vec8 KR.out
              obtain ⟨f0, f1, f2, f3, f4, f5, f6, f7⟩ := free8 KR.out
              go_wp2
              rw [XX.out.1, XX.out.2]
              exact vec_endS rfl rfl rfl rfl KR.out ⟨_, rfl, (HX.out.put8 hr6 _ _ _ _ _ _ _ _).wide L3.out (by rw [put8_size]; exact Nat.le_refl _), put8_below B9.out (by omega)⟩
          · have XX := Lib.hid (XN.out (fun h => qm (NM.out.1 h).2))
            clear NM qt XN XY LQ LG CK
            go_upto_region 5 with (fail)
            have NR := Lib.hid (⟨KR.out⟩ : NewB (w.heap.size + 1 + 1) 31 #[.int .i64 0, .slice none 0 0, .slice none 0 0, .slice none 0 0, .slice none 0 0, .slice none 0 0, .int .i64 0, .int .i64 0] w2)
            have H := Lib.hid (show HeldC w2 w2 ([(w.heap.size, 31, #[.int .i64 kk, .slice ai items.length ci, .slice ap parts.length cp, .slice an names.length cn, .slice ac cls.length cc, .slice al levels.length cl, .int .i64 code, .int .i64 env]), ((w.heap.size + 1), 31, #[.int .i64 uk, .slice ua1 un1 um1, .slice ua2 un2 um2, .slice ua3 un3 um3, .slice ua4 un4 um4, .slice ua5 un5 um5, .int .i64 uc, .int .i64 ue])]) from heldC_two (Below.refl _ _) KA.out KB.out)
            refine run_regionT (ops := (opsOf Try.f9 5)) (S := fun w' => HeldC w2 w' ([(w.heap.size, 31, #[.int .i64 kk, .slice ai items.length ci, .slice ap parts.length cp, .slice an names.length cn, .slice ac cls.length cc, .slice al levels.length cl, .int .i64 code, .int .i64 env]), ((w.heap.size + 1), 31, #[.int .i64 uk, .slice ua1 un1 um1, .slice ua2 un2 um2, .slice ua3 un3 um3, .slice ua4 un4 um4, .slice ua5 un5 um5, .int .i64 uc, .int .i64 ue])])) (.leaf [(0, true), (1, false), (2, true), (3, true), (4, true), (6, true), (5, false), (7, false), (8, true), (9, true), (10, true)]) (by kernel_rfl) (by kernel_rfl) (by kernel_rfl) (by kernel_rfl) (by kernel_rfl) (fun _ _ _ _ _ h => h) (heldC_drew H.out) ?_
            have H := Lib.hid (heldC_drew H.out)
            have NR := Lib.hid (NR.out.keep (below_drew' (Below.refl _ _)))
            refine runC_vec (b := (w.heap.size + 1)) (show opAt (opsOf Try.f9 5) 0 = some (some 25, .load 31 (.tmp 3), none) from by kernel_rfl) (by kernel_rfl) (by kernel_rfl) (by kernel_rfl) (List.Mem.tail _ (List.Mem.head _)) ?_
            refine run_call (args := [.agg #[.int .i64 uk, .slice ua1 un1 um1, .slice ua2 un2 um2, .slice ua3 un3 um3, .slice ua4 un4 um4, .slice ua5 un5 um5, .int .i64 uc, .int .i64 ue]]) (show opAt (opsOf Try.f9 5) 1 = some (some 26, .call { callee := .value (.func 29), args := [(.tmp 25)].toArray, argTypes := [31].toArray }, none) from by kernel_rfl) (by kernel_rfl) (by kernel_rfl) (by kernel_rfl) (by kernel_rfl) ?_
            refine (CT.out _ (below_then B2.out H.out.1)).mono ?_
            rintro en rw1 ⟨rfl, hb⟩
            refine ⟨_, rfl, heldC_call H.out hb, ?_⟩
            have H := Lib.hid (heldC_call H.out hb)
            have NR := Lib.hid (NR.out.keep hb)
            clear hb
            refine run_not (b := true) (show opAt (opsOf Try.f9 5) 2 = some (some 27, .unOp .not 4 (.tmp 26), none) from by kernel_rfl) (by kernel_rfl) (by kernel_rfl) (by kernel_rfl) ?_
            refine run_mov (v := .bool false) (show opAt (opsOf Try.f9 5) 3 = some (some 28, .move (.tmp 27), none) from by kernel_rfl) (by kernel_rfl) (by kernel_rfl) (by kernel_rfl) ?_
            refine runC_vec (b := (w.heap.size + 1)) (show opAt (opsOf Try.f9 5) 4 = some (some 29, .load 31 (.tmp 3), some (3, false)) from by kernel_rfl) (by kernel_rfl) (by kernel_rfl) (by kernel_rfl) (List.Mem.tail _ (List.Mem.head _)) ?_
            refine runC_vec (b := w.heap.size) (show opAt (opsOf Try.f9 5) 6 = some (some 31, .load 31 (.tmp 2), some (3, false)) from by kernel_rfl) (by kernel_rfl) (by kernel_rfl) (by kernel_rfl) (List.Mem.head _) ?_
            refine run_call (args := [.agg #[.int .i64 uk, .slice ua1 un1 um1, .slice ua2 un2 um2, .slice ua3 un3 um3, .slice ua4 un4 um4, .slice ua5 un5 um5, .int .i64 uc, .int .i64 ue]]) (show opAt (opsOf Try.f9 5) 5 = some (some 30, .call { callee := .value (.func 30), args := [(.tmp 29)].toArray, argTypes := [31].toArray }, some (3, false)) from by kernel_rfl) (by kernel_rfl) (by kernel_rfl) (by kernel_rfl) (by kernel_rfl) ?_
            refine (LU.out _ (below_then B2.out H.out.1)).mono ?_
            rintro en rw2 ⟨rfl, hb⟩
            refine ⟨_, rfl, heldC_call H.out hb, ?_⟩
            have H := Lib.hid (heldC_call H.out hb)
            have NR := Lib.hid (NR.out.keep hb)
            clear hb
            refine run_call (args := [.agg #[.int .i64 kk, .slice ai items.length ci, .slice ap parts.length cp, .slice an names.length cn, .slice ac cls.length cc, .slice al levels.length cl, .int .i64 code, .int .i64 env]]) (show opAt (opsOf Try.f9 5) 7 = some (some 32, .call { callee := .value (.func 30), args := [(.tmp 31)].toArray, argTypes := [31].toArray }, some (3, false)) from by kernel_rfl) (by kernel_rfl) (by kernel_rfl) (by kernel_rfl) (by kernel_rfl) ?_
            refine (LV.out _ (below_then B2.out H.out.1)).mono ?_
            rintro en rw3 ⟨rfl, hb⟩
            refine ⟨_, rfl, heldC_call H.out hb, ?_⟩
            have H := Lib.hid (heldC_call H.out hb)
            have NR := Lib.hid (NR.out.keep hb)
            clear hb
            refine run_cmp (k := .i64) (p := (M : Int)) (q := (L : Int)) (b := true) (show opAt (opsOf Try.f9 5) 8 = some (some 33, .binOp .gtr 3 (.tmp 30) (.tmp 32) 3, some (3, false)) from by kernel_rfl) (by kernel_rfl) (by kernel_rfl) (by kernel_rfl) (by kernel_rfl) (congrArg some (decide_eq_true (by omega))) ?_
            refine run_pick (b := false) (v := .bool true) (show opAt (opsOf Try.f9 5) 9 = some (some 34, .pick (.tmp 28) (.const (.bool true)) (.tmp 33), none) from by kernel_rfl) (by kernel_rfl) (by kernel_rfl) (by kernel_rfl) (by kernel_rfl) ?_
            refine run_asg (v := .bool true) (show opAt (opsOf Try.f9 5) 10 = some (some 24, .assign (.tmp 34), none) from by kernel_rfl) (by kernel_rfl) (by kernel_rfl) (by kernel_rfl) ?_
            refine run_done ?_
            simp only [putAll, Act.put, List.setIfInBounds_toArray, List.set_cons_zero, List.set_cons_succ]
            have KR := Lib.hid NR.out.out
            have B3 := Lib.hid (below_then B2.out H.out.1)
            clear H NR k0 k1 k2 k3 k4 k5 k6 k7
            obtain ⟨z0, z1, z2, z3, z4, z5, z6, z7⟩ := vec8 KR.out
            obtain ⟨f0, f1, f2, f3, f4, f5, f6, f7⟩ := free8 KR.out
            go_wp2
            rw [XX.out.1, XX.out.2]
            exact vec_endS rfl rfl rfl rfl KR.out (zeroSA _ _ w _ (put8_below B3.out (by omega)))
        · have XX := Lib.hid (XN.out (fun h => qt (NM.out.1 h).1))
          rw [bB_no qt] at CT
          clear NM qt XN XY LQ LG CK
          go_upto_region 5 with (fail)
          have NR := Lib.hid (⟨KR.out⟩ : NewB (w.heap.size + 1 + 1) 31 #[.int .i64 0, .slice none 0 0, .slice none 0 0, .slice none 0 0, .slice none 0 0, .slice none 0 0, .int .i64 0, .int .i64 0] w2)
          have H := Lib.hid (show HeldC w2 w2 ([(w.heap.size, 31, #[.int .i64 kk, .slice ai items.length ci, .slice ap parts.length cp, .slice an names.length cn, .slice ac cls.length cc, .slice al levels.length cl, .int .i64 code, .int .i64 env]), ((w.heap.size + 1), 31, #[.int .i64 uk, .slice ua1 un1 um1, .slice ua2 un2 um2, .slice ua3 un3 um3, .slice ua4 un4 um4, .slice ua5 un5 um5, .int .i64 uc, .int .i64 ue])]) from heldC_two (Below.refl _ _) KA.out KB.out)
          refine run_regionT (ops := (opsOf Try.f9 5)) (S := fun w' => HeldC w2 w' ([(w.heap.size, 31, #[.int .i64 kk, .slice ai items.length ci, .slice ap parts.length cp, .slice an names.length cn, .slice ac cls.length cc, .slice al levels.length cl, .int .i64 code, .int .i64 env]), ((w.heap.size + 1), 31, #[.int .i64 uk, .slice ua1 un1 um1, .slice ua2 un2 um2, .slice ua3 un3 um3, .slice ua4 un4 um4, .slice ua5 un5 um5, .int .i64 uc, .int .i64 ue])])) (.leaf [(0, true), (1, false), (2, true), (3, true), (4, true), (6, true), (5, false), (7, false), (8, true), (9, true), (10, true)]) (by kernel_rfl) (by kernel_rfl) (by kernel_rfl) (by kernel_rfl) (by kernel_rfl) (fun _ _ _ _ _ h => h) (heldC_drew H.out) ?_
          have H := Lib.hid (heldC_drew H.out)
          have NR := Lib.hid (NR.out.keep (below_drew' (Below.refl _ _)))
          refine runC_vec (b := (w.heap.size + 1)) (show opAt (opsOf Try.f9 5) 0 = some (some 25, .load 31 (.tmp 3), none) from by kernel_rfl) (by kernel_rfl) (by kernel_rfl) (by kernel_rfl) (List.Mem.tail _ (List.Mem.head _)) ?_
          refine run_call (args := [.agg #[.int .i64 uk, .slice ua1 un1 um1, .slice ua2 un2 um2, .slice ua3 un3 um3, .slice ua4 un4 um4, .slice ua5 un5 um5, .int .i64 uc, .int .i64 ue]]) (show opAt (opsOf Try.f9 5) 1 = some (some 26, .call { callee := .value (.func 29), args := [(.tmp 25)].toArray, argTypes := [31].toArray }, none) from by kernel_rfl) (by kernel_rfl) (by kernel_rfl) (by kernel_rfl) (by kernel_rfl) ?_
          refine (CT.out _ (below_then B2.out H.out.1)).mono ?_
          rintro en rw1 ⟨rfl, hb⟩
          refine ⟨_, rfl, heldC_call H.out hb, ?_⟩
          have H := Lib.hid (heldC_call H.out hb)
          have NR := Lib.hid (NR.out.keep hb)
          clear hb
          refine run_not (b := false) (show opAt (opsOf Try.f9 5) 2 = some (some 27, .unOp .not 4 (.tmp 26), none) from by kernel_rfl) (by kernel_rfl) (by kernel_rfl) (by kernel_rfl) ?_
          refine run_mov (v := .bool true) (show opAt (opsOf Try.f9 5) 3 = some (some 28, .move (.tmp 27), none) from by kernel_rfl) (by kernel_rfl) (by kernel_rfl) (by kernel_rfl) ?_
          refine run_skip (show opAt (opsOf Try.f9 5) 4 = some (some 29, .load 31 (.tmp 3), some (3, false)) from by kernel_rfl) (by kernel_rfl) (by kernel_rfl) ?_
          refine run_skip (show opAt (opsOf Try.f9 5) 6 = some (some 31, .load 31 (.tmp 2), some (3, false)) from by kernel_rfl) (by kernel_rfl) (by kernel_rfl) ?_
          refine run_pass (show opAt (opsOf Try.f9 5) 5 = some (some 30, .call { callee := .value (.func 30), args := [(.tmp 29)].toArray, argTypes := [31].toArray }, some (3, false)) from by kernel_rfl) (by kernel_rfl) (by kernel_rfl) H.out ?_
          refine run_pass (show opAt (opsOf Try.f9 5) 7 = some (some 32, .call { callee := .value (.func 30), args := [(.tmp 31)].toArray, argTypes := [31].toArray }, some (3, false)) from by kernel_rfl) (by kernel_rfl) (by kernel_rfl) H.out ?_
          refine run_skip (show opAt (opsOf Try.f9 5) 8 = some (some 33, .binOp .gtr 3 (.tmp 30) (.tmp 32) 3, some (3, false)) from by kernel_rfl) (by kernel_rfl) (by kernel_rfl) ?_
          refine run_pick (b := true) (v := .bool true) (show opAt (opsOf Try.f9 5) 9 = some (some 34, .pick (.tmp 28) (.const (.bool true)) (.tmp 33), none) from by kernel_rfl) (by kernel_rfl) (by kernel_rfl) (by kernel_rfl) (by kernel_rfl) ?_
          refine run_asg (v := .bool true) (show opAt (opsOf Try.f9 5) 10 = some (some 24, .assign (.tmp 34), none) from by kernel_rfl) (by kernel_rfl) (by kernel_rfl) (by kernel_rfl) ?_
          refine run_done ?_
          simp only [putAll, Act.put, List.setIfInBounds_toArray, List.set_cons_zero, List.set_cons_succ]
          have KR := Lib.hid NR.out.out
          have B3 := Lib.hid (below_then B2.out H.out.1)
          clear H NR k0 k1 k2 k3 k4 k5 k6 k7
          obtain ⟨z0, z1, z2, z3, z4, z5, z6, z7⟩ := vec8 KR.out
          obtain ⟨f0, f1, f2, f3, f4, f5, f6, f7⟩ := free8 KR.out
          go_wp2
          rw [XX.out.1, XX.out.2]
          exact vec_endS rfl rfl rfl rfl KR.out (zeroSA _ _ w _ (put8_below B3.out (by omega)))
  · have XX := Lib.hid (XB.out q)
    rw [bB_no q]
    clear q XB XE XN XY
    obtain ⟨z0, z1, z2, z3, z4, z5, z6, z7⟩ := vec8 KR.out
    obtain ⟨f0, f1, f2, f3, f4, f5, f6, f7⟩ := free8 KR.out
    go_wp2
    rw [XX.out.1, XX.out.2]
    exact vec_endS rfl rfl rfl rfl KR.out (zeroSA _ _ w _ (put8_below B2.out (by omega)))
end Go.Proofs.Yteoalkjngkcheaa

/- The reference's copies of vectors. -/
namespace Go.Proofs.Yteoalkjngkcheaa
set_option maxRecDepth 100000
open Go.RowKit
set_option linter.unusedVariables false
theorem RowV.start0 (w : World) (d : Nat) (parts : List Vec) : RowV w (w.alloc (.cells #[] 31)) d parts 0 (.slice (some ⟨w.heap.size, 0, none⟩) 0 0) :=
  ⟨⟨[], [], rfl, rfl, ⟨rfl, .inr ⟨w.heap.size, 0, #[], rfl, Nat.le_refl _, blk_new w _ rfl, Nat.le_refl _, Nat.zero_le _, rfl, rfl⟩⟩, fun i h => absurd h (Nat.not_lt_zero _), List.nodup_nil, fun b h => by cases h⟩, below1 w _⟩
set_option maxHeartbeats 4000000 in
theorem scpStep (d : Nat) (IC : SCV d) : SCP d := by
  refine ⟨fun parts a cap lo hi w hs hhi hsm hall hn => ?_⟩
  have A := Lib.hid (fun (k : Nat) (w1 : World) (hk : k < parts.length) (hb : Below w.heap.size w w1) => (hs.below hb hhi).at_ hk)
  have C := Lib.hid (fun (k : Nat) (w1 : World) (x : Value) (hk : k < parts.length) (hb : Below w.heap.size w w1) (hv : VecAt lo hi w1 d (parts.getD k noV) x) => IC.out _ x lo hi w1 hv (Nat.le_trans hhi hb.size) (hsm k hk) (hall k hk).2 (by have := (hall k hk).1.flat.parts; omega))
  have L := Lib.hid (fun (k : Nat) (w1 : World) (x : Value) (hk : k < parts.length) (hb : Below w.heap.size w w1) (hv : VecAt lo hi w1 d (parts.getD k noV) x) => show Calls Try.prog 47 #[x, .int .i64 3] w1 (fun e w' => e = .returned (.bool true) ∧ Below w1.heap.size w1 w') from ((sIsAll 3 (Nat.le_refl _)).out d _ x lo hi w1 hv (Nat.le_trans hhi hb.size) (hsm k hk)).mono (fun e w' h => by rw [bB_yes (hall k hk).1] at h; exact h))
  have FIN := Lib.hid (fun (wr : World) (v : Value) (h : RowV w wr d parts parts.length v) => h.parts)
  clear hs hsm IC hall
  obtain ⟨n, hn'⟩ : ∃ n, parts.length = n := ⟨_, rfl⟩
  have HNn := Lib.hid hn'
  rw [hn'] at hn A C L FIN ⊢
  clear hn'
  obtain ⟨i0, hi0, hz0, hz1, hz2⟩ := info_parts infoVec8
  go_enter Try.func49, Try.ntmps49
  go_wp2
  go_loopw [3, 4] (fun v i wr => ∃ k : Nat, k ≤ n ∧ i = .int .i64 k ∧ RowV w wr d parts k v) (fun _ i _ => n - (intOf i).toNat)
  case atStart => exact ⟨0, Nat.zero_le _, rfl, RowV.start0 w d parts⟩
  case round =>
    obtain ⟨k, hk, rfl, hr⟩ := hrel
    have RV := Lib.hid hr
    clear hr
    by_cases hlt : k < n
    · have h40 : k ≤ 40 := by omega
      obtain ⟨b, off, p0, p1, p2, p3, p4, p5, p6, p7, rfl, hbB, hv, c0, c1, c2, c3, c4, c5, c6, c7⟩ := A.out _ _ hlt RV.out.below
      have HV := Lib.hid hv
      clear hv
      go_wp2_with fail
      refine (L.out _ _ _ hlt RV.out.below HV.out).mono ?_
      rintro e wi ⟨rfl, hbi⟩
      have RV := Lib.hid (RV.out.keep hbi)
      clear hbi HV c0 c1 c2 c3 c4 c5 c6 c7 hbB
      obtain ⟨b', off', u0, u1, u2, u3, u4, u5, u6, u7, e', hbB, hv, c0, c1, c2, c3, c4, c5, c6, c7⟩ := A.out _ _ hlt RV.out.below
      simp only [Option.some.injEq, Addr.mk.injEq, and_true] at e'
      obtain ⟨rfl, rfl⟩ := e'
      have HV := Lib.hid hv
      clear hv
      go_wp2_with fail
      refine (C.out _ _ _ hlt RV.out.below HV.out).mono ?_
      rintro e w2 ⟨y, rfl, ho, hb⟩
      obtain ⟨yk, ya1, yn1, ym1, ya2, yn2, ym2, ya3, yn3, ym3, ya4, yn4, ym4, ya5, yn5, ym5, yc, ye, rfl⟩ := ho.agg
      have HO := Lib.hid ho
      have BW := Lib.hid hb
      obtain ⟨xs, hxs⟩ := RV.out.row
      have XS := Lib.hid hxs
      have OR := Lib.hid (ownsRow_below (ownsRow_below hxs BW.out) (below1 w2 (.cells #[.int .i64 yk, .slice ya1 yn1 ym1, .slice ya2 yn2 ym2, .slice ya3 yn3 ym3, .slice ya4 yn4 ym4, .slice ya5 yn5 ym5, .int .i64 yc, .int .i64 ye] 31)))
      have S1 := Lib.hid (show w.heap.size ≤ w2.heap.size from (below_then RV.out.below BW.out).size)
      clear ho hb hxs c0 c1 c2 c3 c4 c5 c6 c7
      go_wp2_with (at_builtin; refine wpList_append_own_at _ rfl _ _ 29 rfl w.heap.size 31 i0 _ 8 144 Try.underlying29 hi0 hz0 hz1 hz2 rfl (by decide) _ k xs rfl OR.out ⟨w2.heap.size, 0, none⟩ 1 1 [.int .i64 yk, .slice ya1 yn1 ym1, .slice ya2 yn2 ym2, .slice ya3 yn3 ym3, .slice ya4 yn4 ym4, .slice ya5 yn5 ym5, .int .i64 yc, .int .i64 ye] rfl rfl ?c1 ?c2 ?c3 ?c4 ?c5 ?_)
      case c1 =>
        intro j u hj
        have hlt : j < 8 := by have := (List.getElem?_eq_some_iff.1 hj).1; simpa using this
        rw [addr_add, Nat.zero_add]
        refine cellOf (blk_new w2 _ rfl) ?_
        rw [← hj]
        rcases (show j = 0 ∨ j = 1 ∨ j = 2 ∨ j = 3 ∨ j = 4 ∨ j = 5 ∨ j = 6 ∨ j = 7 by omega) with rfl | rfl | rfl | rfl | rfl | rfl | rfl | rfl <;> rfl
      case c2 => intro u hu; simp only [List.mem_cons, List.not_mem_nil, or_false] at hu; rcases hu with rfl | rfl | rfl | rfl | rfl | rfl | rfl | rfl <;> rfl
      case c3 => unfold maxLen; omega
      case c4 => omega
      case c5 => have := S1.out; simp; omega
      intro v' w3 hown' hgrow _ hwh
      have NX := Lib.hid (RV.out.next HO.out (by simp) BW.out hgrow (fun ys hy => ownsRow_same XS.out hy ▸ hown') (by simpa using hwh))
      clear hown' hgrow hwh
      go_wp2
      go_roundw
      case rel => exact ⟨k + 1, by omega, by go_num, NX.out⟩
      case measure => simp [intOf]; omega
    · obtain rfl : k = n := by omega
      go_wp2
      obtain ⟨F, h1, h2, h3⟩ := FIN.out _ _ RV.out
      go_ret
      exact ⟨_, F, rfl, h1, h2, h3, RV.out.below, by rw [HNn.out]; exact RV.out.row⟩
theorem scvZero : SCV 0 := ⟨fun _ _ _ _ _ h => h.elim⟩
theorem scvAll : ∀ d, SCV d
  | 0 => scvZero
  | d + 1 => scvStep d (scpStep d (scvAll d))
end Go.Proofs.Yteoalkjngkcheaa

/- Parts appended to a vector under way; all parts of a valid vector, however deep, are vectors. -/
namespace Go.Proofs.Yteoalkjngkcheaa
open Go.RowKit
set_option maxRecDepth 100000
set_option linter.unusedVariables false

theorem isV_up : ∀ (n : Nat) (v : Vec), IsV n v → IsV (n + 1) v
  | 0, v, h => ⟨h.1, fun i hi => by have := h.2; omega⟩
  | n + 1, v, h => ⟨h.1, fun i hi => isV_up n _ (h.2 i hi)⟩
theorem isV_three {n : Nat} {v : Vec} (hn : n ≤ 3) (h : IsV n v) : IsV 3 v := by
  rcases (show n = 0 ∨ n = 1 ∨ n = 2 ∨ n = 3 by omega) with rfl | rfl | rfl | rfl
  · exact isV_up _ _ (isV_up _ _ (isV_up _ _ h))
  · exact isV_up _ _ (isV_up _ _ h)
  · exact isV_up _ _ h
  · exact h
theorem allIs_of : ∀ (d n : Nat) (v : Vec), n ≤ 3 → IsV n v → AllIs d v
  | 0, _, _, _, _ => trivial
  | d + 1, 0, v, _, h => fun i hi => by have := h.2; omega
  | d + 1, n + 1, v, hn, h => fun i hi => ⟨isV_three (by omega) (h.2 i hi), allIs_of d n _ (by omega) (h.2 i hi)⟩
section
variable {ops : Array Oper} {Q : Exit → Act → World → Prop} {S : World → Prop} {w0 : World} {L : List (Nat × TypeId × Array Value)}
variable {r : List (Nat × Bool)} {a : Act} {e : List (Nat × Value)} {w : World} {i d : Nat} {g : Option (Nat × Bool)} {v : Value}
end
end Go.Proofs.Yteoalkjngkcheaa

/- Strings of elements, labels that are given: the reference. -/
namespace Go.Proofs.Yteoalkjngkcheaa
open Go.RowKit
set_option maxRecDepth 100000
set_option linter.unusedVariables false

theorem TxZ.empty (w : World) : TxZ w (w.alloc (.cells #[] 9)) [] (.slice (some ⟨w.heap.size, 0, none⟩) 0 0) :=
  ⟨⟨rfl, .inr ⟨w.heap.size, 0, #[], rfl, Nat.le_refl _, blk_new w _ rfl, Nat.le_refl _, Nat.zero_le _, rfl, rfl⟩⟩, below1 w _⟩
/-- NULL, or texts of which none is missing. -/
def OkTx (v : Vec) : Prop := kindV v = 0 ∨ (kindV v = 3 ∧ ∀ j, j < (itemsV v).length → (itemsV v).getD j noI ≠ noI)
end Go.Proofs.Yteoalkjngkcheaa

/- The reference's l4Pick: elements of an atomic vector at positions within its length. -/
namespace Go.Proofs.Yteoalkjngkcheaa
open Go.RowKit
set_option maxRecDepth 100000
set_option linter.unusedVariables false

theorem Und.keep {lo : Nat} {w : World} {d : Nat} {items : List It} {parts : List Vec} {names cls lev : List ByteArray} {vi vp vn vc vl : Value} {X : List Nat} {w' : World} (h : Und lo w d items parts names cls lev vi vp vn vc vl X) (hb : Below w.heap.size w w') : Und lo w' d items parts names cls lev vi vp vn vc vl X := h.below hb
theorem specCleanN (kk code env : Int) (ai ap an ac al : Option Addr) (ni ci np cp cn nc cc nl cl : Nat) (names : List ByteArray) (lo hi : Nat) (w : World) (hN : TextsAt lo hi w an names) (hhi : hi ≤ w.heap.size) (ln : names.length ≤ 1048576) :
    Calls Try.prog 24 #[.agg #[.int .i64 kk, .slice ai ni ci, .slice ap np cp, .slice an names.length cn, .slice ac nc cc, .slice al nl cl, .int .i64 code, .int .i64 env]] w fun e w' => Below w.heap.size w w' ∧ (((∃ i, i < names.length ∧ txtS names i ≠ ⟨#[]⟩) ∧ e = .returned (.agg #[.int .i64 kk, .slice ai ni ci, .slice ap np cp, .slice an names.length cn, .slice ac nc cc, .slice al nl cl, .int .i64 code, .int .i64 env])) ∨
      ((∀ i, i < names.length → txtS names i = ⟨#[]⟩) ∧ ∃ g, w.heap.size ≤ g ∧ e = .returned (.agg #[.int .i64 kk, .slice ai ni ci, .slice ap np cp, .slice (some ⟨g, 0, none⟩) 0 0, .slice ac nc cc, .slice al nl cl, .int .i64 code, .int .i64 env]))) := by
  have h := specClean kk code env (List.replicate ni noI) (List.replicate np noV) names (List.replicate nc ⟨#[]⟩) (List.replicate nl ⟨#[]⟩) ai ap an ac al ci cp cn cc cl lo hi w hN hhi ln
  simp only [List.length_replicate] at h
  exact h
end Go.Proofs.Yteoalkjngkcheaa

/- Names that are given: the reference. -/
namespace Go.Proofs.Yteoalkjngkcheaa
open Go.RowKit
set_option maxRecDepth 100000
set_option linter.unusedVariables false

structure OwnK6 (d : Nat) (v : Vec) (y : Value) (lo hi : Nat) (w : World) : Prop where
  out : Own d v y lo hi w
  le : hi ≤ w.heap.size
theorem OwnK6.keep {d : Nat} {v : Vec} {y : Value} {lo hi : Nat} {w w' : World} (h : OwnK6 d v y lo hi w) (hb : Below w.heap.size w w') : OwnK6 d v y lo hi w' := ⟨h.out.below hb h.le, Nat.le_trans h.le hb.size⟩
theorem OwnK6.but {d : Nat} {v : Vec} {y : Value} {lo hi : Nat} {w w' : World} (h : OwnK6 d v y lo hi w) (hk : ∀ g, g < hi → w'.heap[g]? = w.heap[g]?) (hs : w.heap.size ≤ w'.heap.size) : OwnK6 d v y lo hi w' := by
  obtain ⟨F, h1, h2, h3⟩ := h.out.out
  exact ⟨⟨F, h1.kept _ _ _ _ (fun b hb => hk b (h3 b hb).2), h2, h3⟩, Nat.le_trans h.le hs⟩
theorem specLenT (d : Nat) (v : Vec) (val : Value) (lo hi : Nat) (w : World) (hv : VecAt lo hi w d v val) (hsm : Small d v) :
    Calls Try.prog 22 #[val] w fun e w' => e = .returned (.int .i64 ((lengthV v : Nat) : Int)) ∧ Below w.heap.size w w' := by
  obtain ⟨k, items, parts, names, cls, levels, code, env⟩ := v
  obtain ⟨d', ai, ci, ap, cp, an, cn, ac, cc, al, cl, ed, rfl, _⟩ := vecAt_open hv
  subst ed
  exact specLen k ai ap an ac al items.length ci parts.length cp names.length cn cls.length cc levels.length cl code env w hsm.1 hsm.2.1
set_option maxHeartbeats 8000000 in
theorem specAssignNamesX (d d2 : Nat) (v u : Vec) (val valu : Value) (lo hi : Nat) (w : World) (hv : VecAt lo hi w d v val) (hu : VecAt lo hi w d2 u valu) (hhi : hi ≤ w.heap.size) (hsm : Small d v) (hsu : Small d2 u) (h3 : ¬ (ValidV v ∧ ValidV u ∧ ¬ kindV v = 0 ∧ ¬ kindV v = 5 ∧ (kindV u = 3 ∨ kindV u = 0))) :
    Calls Try.prog 7 #[val, valu] w (ResVS d (anV v u) (anS v u) w) := by
  have H3 := Lib.hid h3
  clear h3
  have C1 := Lib.hid (fun (W : World) (hb : Below w.heap.size w W) => specIsVector d v val lo hi W (hv.below hb hhi) (Nat.le_trans hhi hb.size) hsm)
  have C2 := Lib.hid (fun (W : World) (hb : Below w.heap.size w W) => specIsVector d2 u valu lo hi W (hu.below hb hhi) (Nat.le_trans hhi hb.size) hsu)
  have LV := Lib.hid (fun (W : World) (hb : Below w.heap.size w W) => specLenT d v val lo hi W (hv.below hb hhi) hsm)
  have CC := Lib.hid (fun (h : ValidV v) (W : World) (hb : Below w.heap.size w W) => (scvAll d).out v val lo hi W (hv.below hb hhi) (Nat.le_trans hhi hb.size) hsm (allIs_of d 3 v (Nat.le_refl _) h.1) (by have := h.1.flat.parts; omega))
  have L40 := Lib.hid (fun (h : ValidV v) => (h.1.flat.len : lengthV v ≤ 40))
  have XB := Lib.hid (fun h => an_bad (v := v) (w := u) h)
  have XE := Lib.hid (fun h h1 => an_el (v := v) (w := u) h h1)
  have XN := Lib.hid (fun h h1 h2 => an_no (v := v) (w := u) h h1 h2)
  have XY := Lib.hid (fun h h1 h2 => an_yes (v := v) (w := u) h h1 h2)
  have NM0 := Lib.hid (show NmGo v u ↔ (kindV u = 3 ∨ kindV u = 0) ∧ (itemsV u).length ≤ lengthV v from Iff.rfl)
  have NE := Lib.hid (show NoEl v ↔ kindV v = 0 ∨ kindV v = 5 from Iff.rfl)
  have AE := Lib.hid (show anN v u = clnN (padT (txL (itemsV u)) (lengthV v)) from rfl)
  have UZ0 := Lib.hid (fun (h : ValidV u) (h0 : kindV u = 0) => (by
    obtain ⟨kk, items, parts, names, cls, levels, code, env⟩ := u
    have hf : FlatOk kk items parts.length names cls levels code env := h.1.flat
    have := (hf.h_null h0).1
    show items.length = 0; omega : (itemsV u).length = 0))
  have AE00 := Lib.hid (fun (h : (itemsV u).length = 0) => (by
    show clnN (padT (txL (itemsV u)) (lengthV v)) = []
    refine clnN_no (fun ⟨i, h1, h2⟩ => h2 ?_)
    rw [List.eq_nil_of_length_eq_zero h]
    rw [padT_len] at h1
    rw [List.getD_eq_getElem?_getD]
    unfold padT
    rw [List.getElem?_map, List.getElem?_range h1]
    rfl : anN v u = []))
  obtain ⟨d', ed⟩ : ∃ d', d = d' + 1 := by
    cases v with
    | mk kk items parts names cls levels code env => obtain ⟨d', ai, ci, ap, cp, an, cn, ac, cc, al, cl, ed, _⟩ := vecAt_open hv; exact ⟨d', ed⟩
  subst ed
  obtain ⟨EV, hEV⟩ : ∃ y, anV v u = y := ⟨_, rfl⟩
  obtain ⟨ES, hES⟩ : ∃ y, anS v u = y := ⟨_, rfl⟩
  rw [hEV, hES] at XB XE XN XY ⊢
  have TG0 := Lib.hid (fun k => (txL_get (itemsV u) k).symm)
  have TZ0 := Lib.hid (fun k (h : (itemsV u).length ≤ k) => (by rw [txL_get, List.getD_eq_getElem?_getD, List.getElem?_eq_none h]; rfl : (txL (itemsV u)).getD k ⟨#[]⟩ = ⟨#[]⟩))
  obtain ⟨T, hT⟩ : ∃ T, txL (itemsV u) = T := ⟨_, rfl⟩
  rw [hT] at AE TG0 TZ0
  obtain ⟨L, hL'⟩ : ∃ x, lengthV v = x := ⟨_, rfl⟩
  rw [hL'] at LV L40 NM0 AE
  obtain ⟨AN, hAN⟩ : ∃ x, anN v u = x := ⟨_, rfl⟩
  rw [hAN] at AE AE00 XY
  obtain ⟨ku, ui, up, un, uc, ul, uco, ue⟩ := u
  obtain ⟨d2', bi, dbi, bp, dbp, bn, dbn, bc, dbc, bl, dbl, ed2, rfl, hI2, _⟩ := vecAt_open hu
  have AI := Lib.hid (fun (k : Nat) (W : World) (hk : k < ui.length) (hb : Below w.heap.size w W) => (hI2.below hb hhi).at_ hk)
  have NM := Lib.hid (show NmGo v (.mk ku ui up un uc ul uco ue) ↔ (ku = 3 ∨ ku = 0) ∧ ui.length ≤ L from NM0.out)
  have AE0 := Lib.hid (fun (h : ui.length = 0) => AE00.out h)
  have TG := Lib.hid (fun k => (by exact TG0.out k : (ui.getD k noI).t = T.getD k ⟨#[]⟩))
  have TZ := Lib.hid (fun k (h : ui.length ≤ k) => TZ0.out k h)
  have UZ := Lib.hid (fun h (h0 : ku = 0) => (by exact UZ0.out h h0 : ui.length = 0))
  clear NM0 UZ0 AE00 TG0 TZ0
  have EKU := Lib.hid (show kindV (.mk ku ui up un uc ul uco ue) = ku from rfl)
  obtain ⟨u, hu'⟩ : ∃ x, Vec.mk ku ui up un uc ul uco ue = x := ⟨_, rfl⟩
  rw [hu'] at C2 XB XE XN XY NM UZ EKU H3
  obtain ⟨n, hn⟩ : ∃ x, ui.length = x := ⟨_, rfl⟩
  rw [hn] at C2 AI NM AE0 TZ UZ ⊢
  have KV : kindV v = kindV v := rfl
  obtain ⟨VV, hVV⟩ : ∃ V, v = V := ⟨_, rfl⟩
  have KV : kindV v = kindV VV := by rw [hVV]
  rw [hVV] at C1 XB XE XN XY NM NE CC L40 H3
  obtain ⟨kk, items, parts, names, cls, levels, code, env⟩ := v
  obtain ⟨d'', ai, ci, ap, cp, an, cn, ac, cc, al, cl, ed, rfl, _⟩ := vecAt_open hv
  have XK : kindV VV = kk := by rw [← KV]; rfl
  obtain ⟨v, hvn⟩ : ∃ v, VV = v := ⟨_, rfl⟩
  rw [hvn] at C1 XB XE XN XY NM NE CC L40 XK H3
  clear hv hu hhi hsm hsu hEV hES hT hL' hAN hI2 ed2 hu' hn hVV hvn KV ed
  go_enter Try.func7, Try.ntmps7
  go_wp2_with fail
  obtain ⟨w1, hw1⟩ : ∃ W, ((w.alloc (.cells #[.int .i64 kk, .slice ai items.length ci, .slice ap parts.length cp, .slice an names.length cn, .slice ac cls.length cc, .slice al levels.length cl, .int .i64 code, .int .i64 env] 31)).alloc (.cells #[.int .i64 ku, .slice bi n dbi, .slice bp up.length dbp, .slice bn un.length dbn, .slice bc uc.length dbc, .slice bl ul.length dbl, .int .i64 uco, .int .i64 ue] 31)).alloc (.cells #[.int .i64 0, .slice none 0 0, .slice none 0 0, .slice none 0 0, .slice none 0 0, .slice none 0 0, .int .i64 0, .int .i64 0] 31) = W := ⟨_, rfl⟩
  have hs1 : (w.alloc (.cells #[.int .i64 kk, .slice ai items.length ci, .slice ap parts.length cp, .slice an names.length cn, .slice ac cls.length cc, .slice al levels.length cl, .int .i64 code, .int .i64 env] 31)).heap.size = w.heap.size + 1 := by simp
  have hs2 : ((w.alloc (.cells #[.int .i64 kk, .slice ai items.length ci, .slice ap parts.length cp, .slice an names.length cn, .slice ac cls.length cc, .slice al levels.length cl, .int .i64 code, .int .i64 env] 31)).alloc (.cells #[.int .i64 ku, .slice bi n dbi, .slice bp up.length dbp, .slice bn un.length dbn, .slice bc uc.length dbc, .slice bl ul.length dbl, .int .i64 uco, .int .i64 ue] 31)).heap.size = w.heap.size + 1 + 1 := by simp
  have B1 := Lib.hid (show Below w.heap.size w w1 from hw1 ▸ (((below1 w _).alloc (by simp) _).alloc (by simp; omega) _))
  have KA := Lib.hid (show w1.heap[w.heap.size]? = some (.cells #[.int .i64 kk, .slice ai items.length ci, .slice ap parts.length cp, .slice an names.length cn, .slice ac cls.length cc, .slice al levels.length cl, .int .i64 code, .int .i64 env] 31 (0, 0)) from hw1 ▸ blk_old (blk_old (blk_new w _ rfl)))
  have KB := Lib.hid (show w1.heap[(w.heap.size + 1)]? = some (.cells #[.int .i64 ku, .slice bi n dbi, .slice bp up.length dbp, .slice bn un.length dbn, .slice bc uc.length dbc, .slice bl ul.length dbl, .int .i64 uco, .int .i64 ue] 31 (0, 0)) from hw1 ▸ blk_old (hs1 ▸ blk_new (w.alloc (.cells #[.int .i64 kk, .slice ai items.length ci, .slice ap parts.length cp, .slice an names.length cn, .slice ac cls.length cc, .slice al levels.length cl, .int .i64 code, .int .i64 env] 31)) (.cells #[.int .i64 ku, .slice bi n dbi, .slice bp up.length dbp, .slice bn un.length dbn, .slice bc uc.length dbc, .slice bl ul.length dbl, .int .i64 uco, .int .i64 ue] 31) rfl))
  have KR := Lib.hid (show w1.heap[(w.heap.size + 1 + 1)]? = some (.cells #[.int .i64 0, .slice none 0 0, .slice none 0 0, .slice none 0 0, .slice none 0 0, .slice none 0 0, .int .i64 0, .int .i64 0] 31 (0, 0)) from hw1 ▸ hs2 ▸ blk_new ((w.alloc (.cells #[.int .i64 kk, .slice ai items.length ci, .slice ap parts.length cp, .slice an names.length cn, .slice ac cls.length cc, .slice al levels.length cl, .int .i64 code, .int .i64 env] 31)).alloc (.cells #[.int .i64 ku, .slice bi n dbi, .slice bp up.length dbp, .slice bn un.length dbn, .slice bc uc.length dbc, .slice bl ul.length dbl, .int .i64 uco, .int .i64 ue] 31)) (.cells #[.int .i64 0, .slice none 0 0, .slice none 0 0, .slice none 0 0, .slice none 0 0, .slice none 0 0, .int .i64 0, .int .i64 0] 31) rfl)
  have Z1 := Lib.hid (show w1.heap.size = w.heap.size + 1 + 1 + 1 from hw1 ▸ (by simp))
  rw [hw1]
  clear hw1 hs1 hs2
  with_reducible refine (C1.out _ B1.out).mono ?_
  rintro e w2 ⟨rfl, b⟩
  have B2 := Lib.hid (below_then B1.out b)
  have KA := Lib.hid (blk_below b KA.out)
  have KB := Lib.hid (blk_below b KB.out)
  have KR := Lib.hid (blk_below b KR.out)
  clear b C1
  by_cases qv : ValidV v
  · rw [bB_yes qv]
    obtain ⟨k0, k1, k2, k3, k4, k5, k6, k7⟩ := vec8 KB.out
    go_wp2_with fail
    with_reducible refine (C2.out _ B2.out).mono ?_
    rintro e w3 ⟨rfl, b⟩
    have B3 := Lib.hid (below_then B2.out b)
    have KA := Lib.hid (blk_below b KA.out)
    have KB := Lib.hid (blk_below b KB.out)
    have KR := Lib.hid (blk_below b KR.out)
    clear b C2 k0 k1 k2 k3 k4 k5 k6 k7
    by_cases qu : ValidV u
    · have XE := Lib.hid (fun h1 => XE.out ⟨qv, qu⟩ h1)
      have XN := Lib.hid (fun h1 h2 => XN.out ⟨qv, qu⟩ h1 h2)
      have XY := Lib.hid (fun h1 h2 => XY.out ⟨qv, qu⟩ h1 h2)
      have L40 := L40.out qv
      have UZ := Lib.hid (fun h0 => UZ.out qu h0)
      have CC := Lib.hid (CC.out qv)
      have QQ := Lib.hid (And.intro qv qu)
      rw [bB_yes qu]
      clear qv qu XB
      by_cases h0 : kk = 0
      · have XX := Lib.hid (XE.out (NE.out.2 (.inl (XK.trans h0))))
        subst h0
        obtain ⟨k0, k1, k2, k3, k4, k5, k6, k7⟩ := vec8 KA.out
        clear XE XN XY
        obtain ⟨z0, z1, z2, z3, z4, z5, z6, z7⟩ := vec8 KR.out
        obtain ⟨f0, f1, f2, f3, f4, f5, f6, f7⟩ := free8 KR.out
        go_wp2
        rw [XX.out.1, XX.out.2]
        exact vec_endS rfl rfl rfl rfl KR.out (zeroSA _ _ w _ (put8_below B3.out (by omega)))
      · have h0b : (kk == 0) = false := beq_eq_false_iff_ne.2 h0
        by_cases h5 : kk = 5
        · have XX := Lib.hid (XE.out (NE.out.2 (.inr (XK.trans h5))))
          subst h5
          obtain ⟨k0, k1, k2, k3, k4, k5, k6, k7⟩ := vec8 KA.out
          clear XE XN XY
          obtain ⟨z0, z1, z2, z3, z4, z5, z6, z7⟩ := vec8 KR.out
          obtain ⟨f0, f1, f2, f3, f4, f5, f6, f7⟩ := free8 KR.out
          go_wp2
          rw [XX.out.1, XX.out.2]
          exact vec_endS rfl rfl rfl rfl KR.out (zeroSA _ _ w _ (put8_below B3.out (by omega)))
        · have h5b : (kk == 5) = false := beq_eq_false_iff_ne.2 h5
          have hne : ¬ NoEl v := fun h => (NE.out.1 h).elim (fun e => h0 (XK.symm.trans e)) (fun e => h5 (XK.symm.trans e))
          have N05 := Lib.hid (show ¬ kindV v = 0 ∧ ¬ kindV v = 5 from ⟨fun e => h0 (XK.symm.trans e), fun e => h5 (XK.symm.trans e)⟩)
          have XN := Lib.hid (fun h2 => XN.out hne h2)
          have XY := Lib.hid (fun h2 => XY.out hne h2)
          clear hne XE NE XK h0 h5
          obtain ⟨k0, k1, k2, k3, k4, k5, k6, k7⟩ := vec8 KA.out
          by_cases hq3 : ku = 3
          · exact (H3.out ⟨QQ.out.1, QQ.out.2, N05.out.1, N05.out.2, .inl (EKU.out.trans hq3)⟩).elim
          · by_cases hq0 : ku = 0
            · exact (H3.out ⟨QQ.out.1, QQ.out.2, N05.out.1, N05.out.2, .inr (EKU.out.trans hq0)⟩).elim
            · have XX := Lib.hid (XN.out (fun h => (NM.out.1 h).1.elim hq3 hq0))
              clear NM XN XY UZ AE0
              go_upto_region 5 with (fail)
              have NR := Lib.hid (⟨KR.out⟩ : NewB (w.heap.size + 1 + 1) 31 #[.int .i64 0, .slice none 0 0, .slice none 0 0, .slice none 0 0, .slice none 0 0, .slice none 0 0, .int .i64 0, .int .i64 0] w3)
              have H := Lib.hid (show HeldC w3 w3 ([(w.heap.size, 31, #[.int .i64 kk, .slice ai items.length ci, .slice ap parts.length cp, .slice an names.length cn, .slice ac cls.length cc, .slice al levels.length cl, .int .i64 code, .int .i64 env]), ((w.heap.size + 1), 31, #[.int .i64 ku, .slice bi n dbi, .slice bp up.length dbp, .slice bn un.length dbn, .slice bc uc.length dbc, .slice bl ul.length dbl, .int .i64 uco, .int .i64 ue])]) from heldC_two (Below.refl _ _) KA.out KB.out)
              refine run_regionT (ops := (opsOf Try.f7 5)) (S := fun w' => HeldC w3 w' ([(w.heap.size, 31, #[.int .i64 kk, .slice ai items.length ci, .slice ap parts.length cp, .slice an names.length cn, .slice ac cls.length cc, .slice al levels.length cl, .int .i64 code, .int .i64 env]), ((w.heap.size + 1), 31, #[.int .i64 ku, .slice bi n dbi, .slice bp up.length dbp, .slice bn un.length dbn, .slice bc uc.length dbc, .slice bl ul.length dbl, .int .i64 uco, .int .i64 ue])])) (.leaf [(0, true), (1, true), (2, true), (3, true), (4, true), (5, true), (6, true), (7, true), (8, true), (9, true), (10, true), (11, true), (12, true), (13, false), (14, true), (15, true)]) (by kernel_rfl) (by kernel_rfl) (by kernel_rfl) (by kernel_rfl) (by kernel_rfl) (fun _ _ _ _ _ h => h) (heldC_drew H.out) ?_
              have H := Lib.hid (heldC_drew H.out)
              have NR := Lib.hid (NR.out.keep (below_drew' (Below.refl _ _)))
              refine runC_partV (b := (w.heap.size + 1)) (by kernel_rfl) (show opAt (opsOf Try.f7 5) 0 = some (some 29, .fieldAddr 31 (.tmp 3) 0, none) from by kernel_rfl) (by kernel_rfl) (by kernel_rfl) (by kernel_rfl) ?_
              refine runC_cell (b := (w.heap.size + 1)) (j := 0) (v := .int .i64 ku) load_int (show opAt (opsOf Try.f7 5) 1 = some (some 30, .load 3 (.tmp 29), none) from by kernel_rfl) (by kernel_rfl) (by kernel_rfl) (by kernel_rfl) (List.Mem.tail _ (List.Mem.head _)) rfl ?_
              refine run_cmp (k := .i64) (p := ku) (q := 0) (b := true) (show opAt (opsOf Try.f7 5) 2 = some (some 31, .binOp .neq 3 (.tmp 30) (.const (.int .i64 0)) 3, none) from by kernel_rfl) (by kernel_rfl) (by kernel_rfl) (by kernel_rfl) (by kernel_rfl) (congrArg some (bne_iff_ne.2 hq0)) ?_
              refine run_mov (v := .bool true) (show opAt (opsOf Try.f7 5) 3 = some (some 32, .move (.tmp 31), none) from by kernel_rfl) (by kernel_rfl) (by kernel_rfl) (by kernel_rfl) ?_
              refine runC_partV (b := (w.heap.size + 1)) (by kernel_rfl) (show opAt (opsOf Try.f7 5) 4 = some (some 33, .fieldAddr 31 (.tmp 3) 0, some (3, true)) from by kernel_rfl) (by kernel_rfl) (by kernel_rfl) (by kernel_rfl) ?_
              refine runC_cell (b := (w.heap.size + 1)) (j := 0) (v := .int .i64 ku) load_int (show opAt (opsOf Try.f7 5) 5 = some (some 34, .load 3 (.tmp 33), some (3, true)) from by kernel_rfl) (by kernel_rfl) (by kernel_rfl) (by kernel_rfl) (List.Mem.tail _ (List.Mem.head _)) rfl ?_
              refine run_cmp (k := .i64) (p := ku) (q := 3) (b := true) (show opAt (opsOf Try.f7 5) 6 = some (some 35, .binOp .neq 3 (.tmp 34) (.const (.int .i64 3)) 3, some (3, true)) from by kernel_rfl) (by kernel_rfl) (by kernel_rfl) (by kernel_rfl) (by kernel_rfl) (congrArg some (bne_iff_ne.2 hq3)) ?_
              refine run_pick (b := true) (v := .bool true) (show opAt (opsOf Try.f7 5) 7 = some (some 36, .pick (.tmp 32) (.tmp 35) (.const (.bool false)), none) from by kernel_rfl) (by kernel_rfl) (by kernel_rfl) (by kernel_rfl) (by kernel_rfl) ?_
              refine run_mov (v := .bool true) (show opAt (opsOf Try.f7 5) 8 = some (some 37, .move (.tmp 36), none) from by kernel_rfl) (by kernel_rfl) (by kernel_rfl) (by kernel_rfl) ?_
              refine run_skip (show opAt (opsOf Try.f7 5) 9 = some (some 38, .fieldAddr 31 (.tmp 3) 1, some (8, false)) from by kernel_rfl) (by kernel_rfl) (by kernel_rfl) ?_
              refine run_skip (show opAt (opsOf Try.f7 5) 10 = some (some 39, .load 28 (.tmp 38), some (8, false)) from by kernel_rfl) (by kernel_rfl) (by kernel_rfl) ?_
              refine run_skip (show opAt (opsOf Try.f7 5) 11 = some (some 40, .call { callee := .builtin .len, args := [(.tmp 39)].toArray, argTypes := [28].toArray }, some (8, false)) from by kernel_rfl) (by kernel_rfl) (by kernel_rfl) ?_
              refine run_skip (show opAt (opsOf Try.f7 5) 12 = some (some 41, .load 31 (.tmp 2), some (8, false)) from by kernel_rfl) (by kernel_rfl) (by kernel_rfl) ?_
              refine run_pass (show opAt (opsOf Try.f7 5) 13 = some (some 42, .call { callee := .value (.func 22), args := [(.tmp 41)].toArray, argTypes := [31].toArray }, some (8, false)) from by kernel_rfl) (by kernel_rfl) (by kernel_rfl) H.out ?_
              refine run_skip (show opAt (opsOf Try.f7 5) 14 = some (some 43, .binOp .gtr 3 (.tmp 40) (.tmp 42) 3, some (8, false)) from by kernel_rfl) (by kernel_rfl) (by kernel_rfl) ?_
              refine run_pick (b := true) (v := .bool true) (show opAt (opsOf Try.f7 5) 15 = some (some 44, .pick (.tmp 37) (.const (.bool true)) (.tmp 43), none) from by kernel_rfl) (by kernel_rfl) (by kernel_rfl) (by kernel_rfl) (by kernel_rfl) ?_
              refine run_done ?_
              simp only [putAll, Act.put, List.setIfInBounds_toArray, List.set_cons_zero, List.set_cons_succ]
              obtain ⟨wd, hwd⟩ : ∃ W, w3.drew = W := ⟨_, rfl⟩
              rw [hwd] at H NR ⊢
              clear hwd
              have KR := Lib.hid NR.out.out
              have B4 := Lib.hid (below_then B3.out H.out.1)
              clear H NR k0 k1 k2 k3 k4 k5 k6 k7
              obtain ⟨z0, z1, z2, z3, z4, z5, z6, z7⟩ := vec8 KR.out
              obtain ⟨f0, f1, f2, f3, f4, f5, f6, f7⟩ := free8 KR.out
              go_wp2
              rw [XX.out.1, XX.out.2]
              exact vec_endS rfl rfl rfl rfl KR.out (zeroSA _ _ w _ (put8_below B4.out (by omega)))
    · have XX := Lib.hid (XB.out (fun h => qu h.2))
      rw [bB_no qu]
      clear qv qu XB XE XN XY
      go_wp2_with fail
      with_reducible refine (specBad _).mono ?_
      rintro e w4 ⟨rfl, b⟩
      have B4 := Lib.hid (below_then B3.out b)
      have KR := Lib.hid (blk_below b KR.out)
      clear b
      obtain ⟨z0, z1, z2, z3, z4, z5, z6, z7⟩ := vec8 KR.out
      obtain ⟨f0, f1, f2, f3, f4, f5, f6, f7⟩ := free8 KR.out
      go_wp2
      rw [XX.out.1, XX.out.2]
      exact vec_endS rfl rfl rfl rfl KR.out (zeroSA _ _ w _ (put8_below B4.out (by omega)))
  · have XX := Lib.hid (XB.out (fun h => qv h.1))
    rw [bB_no qv]
    clear qv XB XE XN XY
    go_wp2_with fail
    with_reducible refine (specBad _).mono ?_
    rintro e w3 ⟨rfl, b⟩
    have B3 := Lib.hid (below_then B2.out b)
    have KR := Lib.hid (blk_below b KR.out)
    clear b
    obtain ⟨z0, z1, z2, z3, z4, z5, z6, z7⟩ := vec8 KR.out
    obtain ⟨f0, f1, f2, f3, f4, f5, f6, f7⟩ := free8 KR.out
    go_wp2
    rw [XX.out.1, XX.out.2]
    exact vec_endS rfl rfl rfl rfl KR.out (zeroSA _ _ w _ (put8_below B3.out (by omega)))
end Go.Proofs.Yteoalkjngkcheaa

/- Names that are given, texts: the reference. -/
namespace Go.Proofs.Yteoalkjngkcheaa
open Go.RowKit
set_option maxRecDepth 100000
set_option linter.unusedVariables false

set_option maxHeartbeats 8000000 in
theorem specAssignNames3 (d d2 : Nat) (v u : Vec) (val valu : Value) (lo hi : Nat) (w : World) (hv : VecAt lo hi w d v val) (hu : VecAt lo hi w d2 u valu) (hhi : hi ≤ w.heap.size) (hsm : Small d v) (hsu : Small d2 u) (h3 : kindV u = 3 ∧ ValidV v ∧ ValidV u ∧ ¬ kindV v = 0 ∧ ¬ kindV v = 5) :
    Calls Try.prog 7 #[val, valu] w (ResVS d (anV v u) (anS v u) w) := by
  have H3 := Lib.hid h3
  clear h3
  have C1 := Lib.hid (fun (W : World) (hb : Below w.heap.size w W) => specIsVector d v val lo hi W (hv.below hb hhi) (Nat.le_trans hhi hb.size) hsm)
  have C2 := Lib.hid (fun (W : World) (hb : Below w.heap.size w W) => specIsVector d2 u valu lo hi W (hu.below hb hhi) (Nat.le_trans hhi hb.size) hsu)
  have LV := Lib.hid (fun (W : World) (hb : Below w.heap.size w W) => specLenT d v val lo hi W (hv.below hb hhi) hsm)
  have CC := Lib.hid (fun (h : ValidV v) (W : World) (hb : Below w.heap.size w W) => (scvAll d).out v val lo hi W (hv.below hb hhi) (Nat.le_trans hhi hb.size) hsm (allIs_of d 3 v (Nat.le_refl _) h.1) (by have := h.1.flat.parts; omega))
  have L40 := Lib.hid (fun (h : ValidV v) => (h.1.flat.len : lengthV v ≤ 40))
  have XB := Lib.hid (fun h => an_bad (v := v) (w := u) h)
  have XE := Lib.hid (fun h h1 => an_el (v := v) (w := u) h h1)
  have XN := Lib.hid (fun h h1 h2 => an_no (v := v) (w := u) h h1 h2)
  have XY := Lib.hid (fun h h1 h2 => an_yes (v := v) (w := u) h h1 h2)
  have NM0 := Lib.hid (show NmGo v u ↔ (kindV u = 3 ∨ kindV u = 0) ∧ (itemsV u).length ≤ lengthV v from Iff.rfl)
  have NE := Lib.hid (show NoEl v ↔ kindV v = 0 ∨ kindV v = 5 from Iff.rfl)
  have AE := Lib.hid (show anN v u = clnN (padT (txL (itemsV u)) (lengthV v)) from rfl)
  have UZ0 := Lib.hid (fun (h : ValidV u) (h0 : kindV u = 0) => (by
    obtain ⟨kk, items, parts, names, cls, levels, code, env⟩ := u
    have hf : FlatOk kk items parts.length names cls levels code env := h.1.flat
    have := (hf.h_null h0).1
    show items.length = 0; omega : (itemsV u).length = 0))
  have AE00 := Lib.hid (fun (h : (itemsV u).length = 0) => (by
    show clnN (padT (txL (itemsV u)) (lengthV v)) = []
    refine clnN_no (fun ⟨i, h1, h2⟩ => h2 ?_)
    rw [List.eq_nil_of_length_eq_zero h]
    rw [padT_len] at h1
    rw [List.getD_eq_getElem?_getD]
    unfold padT
    rw [List.getElem?_map, List.getElem?_range h1]
    rfl : anN v u = []))
  obtain ⟨d', ed⟩ : ∃ d', d = d' + 1 := by
    cases v with
    | mk kk items parts names cls levels code env => obtain ⟨d', ai, ci, ap, cp, an, cn, ac, cc, al, cl, ed, _⟩ := vecAt_open hv; exact ⟨d', ed⟩
  subst ed
  obtain ⟨EV, hEV⟩ : ∃ y, anV v u = y := ⟨_, rfl⟩
  obtain ⟨ES, hES⟩ : ∃ y, anS v u = y := ⟨_, rfl⟩
  rw [hEV, hES] at XB XE XN XY ⊢
  have TG0 := Lib.hid (fun k => (txL_get (itemsV u) k).symm)
  have TZ0 := Lib.hid (fun k (h : (itemsV u).length ≤ k) => (by rw [txL_get, List.getD_eq_getElem?_getD, List.getElem?_eq_none h]; rfl : (txL (itemsV u)).getD k ⟨#[]⟩ = ⟨#[]⟩))
  obtain ⟨T, hT⟩ : ∃ T, txL (itemsV u) = T := ⟨_, rfl⟩
  rw [hT] at AE TG0 TZ0
  obtain ⟨L, hL'⟩ : ∃ x, lengthV v = x := ⟨_, rfl⟩
  rw [hL'] at LV L40 NM0 AE
  obtain ⟨AN, hAN⟩ : ∃ x, anN v u = x := ⟨_, rfl⟩
  rw [hAN] at AE AE00 XY
  obtain ⟨ku, ui, up, un, uc, ul, uco, ue⟩ := u
  obtain ⟨d2', bi, dbi, bp, dbp, bn, dbn, bc, dbc, bl, dbl, ed2, rfl, hI2, _⟩ := vecAt_open hu
  have AI := Lib.hid (fun (k : Nat) (W : World) (hk : k < ui.length) (hb : Below w.heap.size w W) => (hI2.below hb hhi).at_ hk)
  have NM := Lib.hid (show NmGo v (.mk ku ui up un uc ul uco ue) ↔ (ku = 3 ∨ ku = 0) ∧ ui.length ≤ L from NM0.out)
  have AE0 := Lib.hid (fun (h : ui.length = 0) => AE00.out h)
  have TG := Lib.hid (fun k => (by exact TG0.out k : (ui.getD k noI).t = T.getD k ⟨#[]⟩))
  have TZ := Lib.hid (fun k (h : ui.length ≤ k) => TZ0.out k h)
  have UZ := Lib.hid (fun h (h0 : ku = 0) => (by exact UZ0.out h h0 : ui.length = 0))
  clear NM0 UZ0 AE00 TG0 TZ0
  have EKU := Lib.hid (show kindV (.mk ku ui up un uc ul uco ue) = ku from rfl)
  obtain ⟨u, hu'⟩ : ∃ x, Vec.mk ku ui up un uc ul uco ue = x := ⟨_, rfl⟩
  rw [hu'] at C2 XB XE XN XY NM UZ EKU H3
  obtain ⟨n, hn⟩ : ∃ x, ui.length = x := ⟨_, rfl⟩
  rw [hn] at C2 AI NM AE0 TZ UZ ⊢
  have KV : kindV v = kindV v := rfl
  obtain ⟨VV, hVV⟩ : ∃ V, v = V := ⟨_, rfl⟩
  have KV : kindV v = kindV VV := by rw [hVV]
  rw [hVV] at C1 XB XE XN XY NM NE CC L40 H3
  obtain ⟨kk, items, parts, names, cls, levels, code, env⟩ := v
  obtain ⟨d'', ai, ci, ap, cp, an, cn, ac, cc, al, cl, ed, rfl, _⟩ := vecAt_open hv
  have XK : kindV VV = kk := by rw [← KV]; rfl
  obtain ⟨v, hvn⟩ : ∃ v, VV = v := ⟨_, rfl⟩
  rw [hvn] at C1 XB XE XN XY NM NE CC L40 XK H3
  clear hv hu hhi hsm hsu hEV hES hT hL' hAN hI2 ed2 hu' hn hVV hvn KV ed
  go_enter Try.func7, Try.ntmps7
  go_wp2_with fail
  obtain ⟨w1, hw1⟩ : ∃ W, ((w.alloc (.cells #[.int .i64 kk, .slice ai items.length ci, .slice ap parts.length cp, .slice an names.length cn, .slice ac cls.length cc, .slice al levels.length cl, .int .i64 code, .int .i64 env] 31)).alloc (.cells #[.int .i64 ku, .slice bi n dbi, .slice bp up.length dbp, .slice bn un.length dbn, .slice bc uc.length dbc, .slice bl ul.length dbl, .int .i64 uco, .int .i64 ue] 31)).alloc (.cells #[.int .i64 0, .slice none 0 0, .slice none 0 0, .slice none 0 0, .slice none 0 0, .slice none 0 0, .int .i64 0, .int .i64 0] 31) = W := ⟨_, rfl⟩
  have hs1 : (w.alloc (.cells #[.int .i64 kk, .slice ai items.length ci, .slice ap parts.length cp, .slice an names.length cn, .slice ac cls.length cc, .slice al levels.length cl, .int .i64 code, .int .i64 env] 31)).heap.size = w.heap.size + 1 := by simp
  have hs2 : ((w.alloc (.cells #[.int .i64 kk, .slice ai items.length ci, .slice ap parts.length cp, .slice an names.length cn, .slice ac cls.length cc, .slice al levels.length cl, .int .i64 code, .int .i64 env] 31)).alloc (.cells #[.int .i64 ku, .slice bi n dbi, .slice bp up.length dbp, .slice bn un.length dbn, .slice bc uc.length dbc, .slice bl ul.length dbl, .int .i64 uco, .int .i64 ue] 31)).heap.size = w.heap.size + 1 + 1 := by simp
  have B1 := Lib.hid (show Below w.heap.size w w1 from hw1 ▸ (((below1 w _).alloc (by simp) _).alloc (by simp; omega) _))
  have KA := Lib.hid (show w1.heap[w.heap.size]? = some (.cells #[.int .i64 kk, .slice ai items.length ci, .slice ap parts.length cp, .slice an names.length cn, .slice ac cls.length cc, .slice al levels.length cl, .int .i64 code, .int .i64 env] 31 (0, 0)) from hw1 ▸ blk_old (blk_old (blk_new w _ rfl)))
  have KB := Lib.hid (show w1.heap[(w.heap.size + 1)]? = some (.cells #[.int .i64 ku, .slice bi n dbi, .slice bp up.length dbp, .slice bn un.length dbn, .slice bc uc.length dbc, .slice bl ul.length dbl, .int .i64 uco, .int .i64 ue] 31 (0, 0)) from hw1 ▸ blk_old (hs1 ▸ blk_new (w.alloc (.cells #[.int .i64 kk, .slice ai items.length ci, .slice ap parts.length cp, .slice an names.length cn, .slice ac cls.length cc, .slice al levels.length cl, .int .i64 code, .int .i64 env] 31)) (.cells #[.int .i64 ku, .slice bi n dbi, .slice bp up.length dbp, .slice bn un.length dbn, .slice bc uc.length dbc, .slice bl ul.length dbl, .int .i64 uco, .int .i64 ue] 31) rfl))
  have KR := Lib.hid (show w1.heap[(w.heap.size + 1 + 1)]? = some (.cells #[.int .i64 0, .slice none 0 0, .slice none 0 0, .slice none 0 0, .slice none 0 0, .slice none 0 0, .int .i64 0, .int .i64 0] 31 (0, 0)) from hw1 ▸ hs2 ▸ blk_new ((w.alloc (.cells #[.int .i64 kk, .slice ai items.length ci, .slice ap parts.length cp, .slice an names.length cn, .slice ac cls.length cc, .slice al levels.length cl, .int .i64 code, .int .i64 env] 31)).alloc (.cells #[.int .i64 ku, .slice bi n dbi, .slice bp up.length dbp, .slice bn un.length dbn, .slice bc uc.length dbc, .slice bl ul.length dbl, .int .i64 uco, .int .i64 ue] 31)) (.cells #[.int .i64 0, .slice none 0 0, .slice none 0 0, .slice none 0 0, .slice none 0 0, .slice none 0 0, .int .i64 0, .int .i64 0] 31) rfl)
  have Z1 := Lib.hid (show w1.heap.size = w.heap.size + 1 + 1 + 1 from hw1 ▸ (by simp))
  rw [hw1]
  clear hw1 hs1 hs2
  with_reducible refine (C1.out _ B1.out).mono ?_
  rintro e w2 ⟨rfl, b⟩
  have B2 := Lib.hid (below_then B1.out b)
  have KA := Lib.hid (blk_below b KA.out)
  have KB := Lib.hid (blk_below b KB.out)
  have KR := Lib.hid (blk_below b KR.out)
  clear b C1
  obtain ⟨qk, qv, qu, q0, q5⟩ := H3.out
  rw [bB_yes qv]
  obtain ⟨k0, k1, k2, k3, k4, k5, k6, k7⟩ := vec8 KB.out
  go_wp2_with fail
  with_reducible refine (C2.out _ B2.out).mono ?_
  rintro e w3 ⟨rfl, b⟩
  have B3 := Lib.hid (below_then B2.out b)
  have KA := Lib.hid (blk_below b KA.out)
  have KB := Lib.hid (blk_below b KB.out)
  have KR := Lib.hid (blk_below b KR.out)
  clear b C2 k0 k1 k2 k3 k4 k5 k6 k7
  have hne : ¬ NoEl v := fun h => (NE.out.1 h).elim q0 q5
  have XN := Lib.hid (fun h2 => XN.out ⟨qv, qu⟩ hne h2)
  have XY := Lib.hid (fun h2 => XY.out ⟨qv, qu⟩ hne h2)
  have L40 := L40.out qv
  have UZ := Lib.hid (fun h0 => UZ.out qu h0)
  have CC := Lib.hid (CC.out qv)
  rw [bB_yes qu]
  have h0b : (kk == 0) = false := beq_eq_false_iff_ne.2 (fun e => q0 (XK.trans e))
  have h5b : (kk == 5) = false := beq_eq_false_iff_ne.2 (fun e => q5 (XK.trans e))
  have HQ := Lib.hid (EKU.out.symm.trans qk)
  clear qk qv qu q0 q5 hne XB XE NE XK H3 EKU
  obtain ⟨k0, k1, k2, k3, k4, k5, k6, k7⟩ := vec8 KA.out
  have hq3 := HQ.out
  clear HQ
  subst hq3
  by_cases qm : n ≤ L
  · have XX := Lib.hid (XY.out (NM.out.2 ⟨.inl rfl, qm⟩))
    clear NM XN XY UZ AE0
    go_upto_region 5 with (fail)
    have NR := Lib.hid (⟨KR.out⟩ : NewB (w.heap.size + 1 + 1) 31 #[.int .i64 0, .slice none 0 0, .slice none 0 0, .slice none 0 0, .slice none 0 0, .slice none 0 0, .int .i64 0, .int .i64 0] w3)
    have H := Lib.hid (show HeldC w3 w3 ([(w.heap.size, 31, #[.int .i64 kk, .slice ai items.length ci, .slice ap parts.length cp, .slice an names.length cn, .slice ac cls.length cc, .slice al levels.length cl, .int .i64 code, .int .i64 env]), ((w.heap.size + 1), 31, #[.int .i64 3, .slice bi n dbi, .slice bp up.length dbp, .slice bn un.length dbn, .slice bc uc.length dbc, .slice bl ul.length dbl, .int .i64 uco, .int .i64 ue])]) from heldC_two (Below.refl _ _) KA.out KB.out)
    refine run_regionT (ops := (opsOf Try.f7 5)) (S := fun w' => HeldC w3 w' ([(w.heap.size, 31, #[.int .i64 kk, .slice ai items.length ci, .slice ap parts.length cp, .slice an names.length cn, .slice ac cls.length cc, .slice al levels.length cl, .int .i64 code, .int .i64 env]), ((w.heap.size + 1), 31, #[.int .i64 3, .slice bi n dbi, .slice bp up.length dbp, .slice bn un.length dbn, .slice bc uc.length dbc, .slice bl ul.length dbl, .int .i64 uco, .int .i64 ue])])) (.leaf [(0, true), (1, true), (2, true), (3, true), (4, true), (5, true), (6, true), (7, true), (8, true), (9, true), (10, true), (11, true), (12, true), (13, false), (14, true), (15, true)]) (by kernel_rfl) (by kernel_rfl) (by kernel_rfl) (by kernel_rfl) (by kernel_rfl) (fun _ _ _ _ _ h => h) (heldC_drew H.out) ?_
    have H := Lib.hid (heldC_drew H.out)
    have NR := Lib.hid (NR.out.keep (below_drew' (Below.refl _ _)))
    refine runC_partV (b := (w.heap.size + 1)) (by kernel_rfl) (show opAt (opsOf Try.f7 5) 0 = some (some 29, .fieldAddr 31 (.tmp 3) 0, none) from by kernel_rfl) (by kernel_rfl) (by kernel_rfl) (by kernel_rfl) ?_
    refine runC_cell (b := (w.heap.size + 1)) (j := 0) (v := .int .i64 3) load_int (show opAt (opsOf Try.f7 5) 1 = some (some 30, .load 3 (.tmp 29), none) from by kernel_rfl) (by kernel_rfl) (by kernel_rfl) (by kernel_rfl) (List.Mem.tail _ (List.Mem.head _)) rfl ?_
    refine run_cmp (k := .i64) (p := 3) (q := 0) (b := true) (show opAt (opsOf Try.f7 5) 2 = some (some 31, .binOp .neq 3 (.tmp 30) (.const (.int .i64 0)) 3, none) from by kernel_rfl) (by kernel_rfl) (by kernel_rfl) (by kernel_rfl) (by kernel_rfl) (congrArg some (bne_iff_ne.2 (by decide))) ?_
    refine run_mov (v := .bool true) (show opAt (opsOf Try.f7 5) 3 = some (some 32, .move (.tmp 31), none) from by kernel_rfl) (by kernel_rfl) (by kernel_rfl) (by kernel_rfl) ?_
    refine runC_partV (b := (w.heap.size + 1)) (by kernel_rfl) (show opAt (opsOf Try.f7 5) 4 = some (some 33, .fieldAddr 31 (.tmp 3) 0, some (3, true)) from by kernel_rfl) (by kernel_rfl) (by kernel_rfl) (by kernel_rfl) ?_
    refine runC_cell (b := (w.heap.size + 1)) (j := 0) (v := .int .i64 3) load_int (show opAt (opsOf Try.f7 5) 5 = some (some 34, .load 3 (.tmp 33), some (3, true)) from by kernel_rfl) (by kernel_rfl) (by kernel_rfl) (by kernel_rfl) (List.Mem.tail _ (List.Mem.head _)) rfl ?_
    refine run_cmp (k := .i64) (p := 3) (q := 3) (b := false) (show opAt (opsOf Try.f7 5) 6 = some (some 35, .binOp .neq 3 (.tmp 34) (.const (.int .i64 3)) 3, some (3, true)) from by kernel_rfl) (by kernel_rfl) (by kernel_rfl) (by kernel_rfl) (by kernel_rfl) (congrArg some (bne_eq_false_iff_eq.2 rfl)) ?_
    refine run_pick (b := true) (v := .bool false) (show opAt (opsOf Try.f7 5) 7 = some (some 36, .pick (.tmp 32) (.tmp 35) (.const (.bool false)), none) from by kernel_rfl) (by kernel_rfl) (by kernel_rfl) (by kernel_rfl) (by kernel_rfl) ?_
    refine run_mov (v := .bool false) (show opAt (opsOf Try.f7 5) 8 = some (some 37, .move (.tmp 36), none) from by kernel_rfl) (by kernel_rfl) (by kernel_rfl) (by kernel_rfl) ?_
    refine runC_partV (b := (w.heap.size + 1)) (by kernel_rfl) (show opAt (opsOf Try.f7 5) 9 = some (some 38, .fieldAddr 31 (.tmp 3) 1, some (8, false)) from by kernel_rfl) (by kernel_rfl) (by kernel_rfl) (by kernel_rfl) ?_
    refine runC_cell (b := (w.heap.size + 1)) (j := 1) (v := .slice bi n dbi) load_its (show opAt (opsOf Try.f7 5) 10 = some (some 39, .load 28 (.tmp 38), some (8, false)) from by kernel_rfl) (by kernel_rfl) (by kernel_rfl) (by kernel_rfl) (List.Mem.tail _ (List.Mem.head _)) rfl ?_
    refine run_len (b := bi) (n := n) (c := dbi) (show opAt (opsOf Try.f7 5) 11 = some (some 40, .call { callee := .builtin .len, args := [(.tmp 39)].toArray, argTypes := [28].toArray }, some (8, false)) from by kernel_rfl) (by kernel_rfl) (by kernel_rfl) (by kernel_rfl) (by kernel_rfl) ?_
    refine runC_vec (b := w.heap.size) (show opAt (opsOf Try.f7 5) 12 = some (some 41, .load 31 (.tmp 2), some (8, false)) from by kernel_rfl) (by kernel_rfl) (by kernel_rfl) (by kernel_rfl) (List.Mem.head _) ?_
    refine run_call (args := [.agg #[.int .i64 kk, .slice ai items.length ci, .slice ap parts.length cp, .slice an names.length cn, .slice ac cls.length cc, .slice al levels.length cl, .int .i64 code, .int .i64 env]]) (show opAt (opsOf Try.f7 5) 13 = some (some 42, .call { callee := .value (.func 22), args := [(.tmp 41)].toArray, argTypes := [31].toArray }, some (8, false)) from by kernel_rfl) (by kernel_rfl) (by kernel_rfl) (by kernel_rfl) (by kernel_rfl) ?_
    refine (LV.out _ (below_then B3.out H.out.1)).mono ?_
    rintro en rw1 ⟨rfl, hb⟩
    refine ⟨_, rfl, heldC_call H.out hb, ?_⟩
    have H := Lib.hid (heldC_call H.out hb)
    have NR := Lib.hid (NR.out.keep hb)
    clear hb
    refine run_cmp (k := .i64) (p := (n : Int)) (q := (L : Int)) (b := false) (show opAt (opsOf Try.f7 5) 14 = some (some 43, .binOp .gtr 3 (.tmp 40) (.tmp 42) 3, some (8, false)) from by kernel_rfl) (by kernel_rfl) (by kernel_rfl) (by kernel_rfl) (by kernel_rfl) (congrArg some (decide_eq_false (by omega))) ?_
    refine run_pick (b := false) (v := .bool false) (show opAt (opsOf Try.f7 5) 15 = some (some 44, .pick (.tmp 37) (.const (.bool true)) (.tmp 43), none) from by kernel_rfl) (by kernel_rfl) (by kernel_rfl) (by kernel_rfl) (by kernel_rfl) ?_
    refine run_done ?_
    simp only [putAll, Act.put, List.setIfInBounds_toArray, List.set_cons_zero, List.set_cons_succ]
    clear k0 k1 k2 k3 k4 k5 k6 k7
    obtain ⟨w3', hw3⟩ : ∃ W, rw1 = W := ⟨_, rfl⟩
    rw [hw3] at H NR ⊢
    clear hw3
    have KA := Lib.hid (heldC_at H.out (List.Mem.head _))
    have KB := Lib.hid (heldC_at H.out (List.Mem.tail _ (List.Mem.head _)))
    have KR := Lib.hid NR.out.out
    have B3 := Lib.hid (below_then B3.out H.out.1)
    clear H NR
    obtain ⟨w3, hw3⟩ : ∃ W, w3' = W := ⟨_, rfl⟩
    rw [hw3] at KA KB KR B3 ⊢
    clear hw3
    obtain ⟨k0, k1, k2, k3, k4, k5, k6, k7⟩ := vec8 KA.out
    go_wp2_with fail
    refine (CC.out _ B3.out).mono ?_
    rintro e w4 ⟨y, rfl, ho, b⟩
    obtain ⟨yk, ya1, yn1, ym1, ya2, yn2, ym2, ya3, yn3, ym3, ya4, yn4, ym4, ya5, yn5, ym5, yc, ye, rfl⟩ := ho.agg
    have L3 := Lib.hid B3.out.size
    have hr3 := (Array.getElem?_eq_some_iff.1 KR.out).1
    have B4 := Lib.hid (below_then B3.out b)
    have HO := Lib.hid ho
    have S4 := Lib.hid b.size
    have KA := Lib.hid (blk_below b KA.out)
    have KB := Lib.hid (blk_below b KB.out)
    have KR := Lib.hid (blk_below b KR.out)
    clear b ho k0 k1 k2 k3 k4 k5 k6 k7 CC
    go_upto_region 8 with (fail)
    obtain ⟨w5, hw5⟩ : ∃ W, w4.alloc (.cells #[.int .i64 yk, .slice ya1 yn1 ym1, .slice ya2 yn2 ym2, .slice ya3 yn3 ym3, .slice ya4 yn4 ym4, .slice ya5 yn5 ym5, .int .i64 yc, .int .i64 ye] 31) = W := ⟨_, rfl⟩
    have KX := Lib.hid (show w5.heap[w4.heap.size]? = some (.cells #[.int .i64 yk, .slice ya1 yn1 ym1, .slice ya2 yn2 ym2, .slice ya3 yn3 ym3, .slice ya4 yn4 ym4, .slice ya5 yn5 ym5, .int .i64 yc, .int .i64 ye] 31 (0, 0)) from hw5 ▸ blk_new w4 _ rfl)
    have KA := Lib.hid (show w5.heap[w.heap.size]? = some (.cells #[.int .i64 kk, .slice ai items.length ci, .slice ap parts.length cp, .slice an names.length cn, .slice ac cls.length cc, .slice al levels.length cl, .int .i64 code, .int .i64 env] 31 (0, 0)) from hw5 ▸ blk_old KA.out)
    have KB := Lib.hid (show w5.heap[(w.heap.size + 1)]? = some (.cells #[.int .i64 3, .slice bi n dbi, .slice bp up.length dbp, .slice bn un.length dbn, .slice bc uc.length dbc, .slice bl ul.length dbl, .int .i64 uco, .int .i64 ue] 31 (0, 0)) from hw5 ▸ blk_old KB.out)
    have KR := Lib.hid (show w5.heap[(w.heap.size + 1 + 1)]? = some (.cells #[.int .i64 0, .slice none 0 0, .slice none 0 0, .slice none 0 0, .slice none 0 0, .slice none 0 0, .int .i64 0, .int .i64 0] 31 (0, 0)) from hw5 ▸ blk_old KR.out)
    have B5 := Lib.hid (show Below w.heap.size w w5 from hw5 ▸ B4.out.alloc B4.out.size _)
    have S5 := Lib.hid (show w5.heap.size = w4.heap.size + 1 from hw5 ▸ (by simp))
    have HO := Lib.hid (show Own (d' + 1) v (.agg #[.int .i64 yk, .slice ya1 yn1 ym1, .slice ya2 yn2 ym2, .slice ya3 yn3 ym3, .slice ya4 yn4 ym4, .slice ya5 yn5 ym5, .int .i64 yc, .int .i64 ye]) w3.heap.size w4.heap.size w5 from hw5 ▸ HO.out.below (below1 w4 _) (Nat.le_refl _))
    rw [hw5]
    clear hw5
    obtain ⟨bx, hbx⟩ : ∃ b, w4.heap.size = b := ⟨_, rfl⟩
    rw [hbx] at KX HO S5 S4 ⊢
    clear hbx B4
    have S5' := S5.out
    obtain ⟨k0, k1, k2, k3, k4, k5, k6, k7⟩ := vec8 KX.out
    obtain ⟨g0, g1, g2, g3, g4, g5, g6, g7⟩ := free8 KX.out
    have hbw := (Array.getElem?_eq_some_iff.1 KX.out).1
    go_upto_region 9 with (fail)
    clear k0 k1 k2 k3 k4 k5 k6 k7 g0 g1 g2 g3 g4 g5 g6 g7 hbw
    have hxr : w.heap.size + 1 + 1 < bx := by have := S4.out; omega
    obtain ⟨w6, hw6⟩ : ∃ W, w5.setCell ⟨bx, 3, none⟩ (.slice (some ⟨bx + 1, 0, none⟩) 0 0) = W := ⟨_, rfl⟩
    have S6 : w6.heap.size = bx + 1 := by rw [← hw6]; simp; omega
    have KX := Lib.hid (show w6.heap[bx]? = some (.cells #[.int .i64 yk, .slice ya1 yn1 ym1, .slice ya2 yn2 ym2, .slice (some ⟨bx + 1, 0, none⟩) 0 0, .slice ya4 yn4 ym4, .slice ya5 yn5 ym5, .int .i64 yc, .int .i64 ye] 31 (0, 0)) from hw6 ▸ Joins.block_setCell KX.out _)
    have KA := Lib.hid (show w6.heap[w.heap.size]? = some (.cells #[.int .i64 kk, .slice ai items.length ci, .slice ap parts.length cp, .slice an names.length cn, .slice ac cls.length cc, .slice al levels.length cl, .int .i64 code, .int .i64 env] 31 (0, 0)) from hw6 ▸ (Below.heap_setCell _ _ _ _ (show w.heap.size ≠ bx by omega)).trans KA.out)
    have KB := Lib.hid (show w6.heap[(w.heap.size + 1)]? = some (.cells #[.int .i64 3, .slice bi n dbi, .slice bp up.length dbp, .slice bn un.length dbn, .slice bc uc.length dbc, .slice bl ul.length dbl, .int .i64 uco, .int .i64 ue] 31 (0, 0)) from hw6 ▸ (Below.heap_setCell _ _ _ _ (show (w.heap.size + 1) ≠ bx by omega)).trans KB.out)
    have KR := Lib.hid (show w6.heap[(w.heap.size + 1 + 1)]? = some (.cells #[.int .i64 0, .slice none 0 0, .slice none 0 0, .slice none 0 0, .slice none 0 0, .slice none 0 0, .int .i64 0, .int .i64 0] 31 (0, 0)) from hw6 ▸ (Below.heap_setCell _ _ _ _ (show (w.heap.size + 1 + 1) ≠ bx by omega)).trans KR.out)
    have B6 := Lib.hid (show Below w.heap.size w w6 from hw6 ▸ B5.out.setCell (p := ⟨bx, 3, none⟩) (show w.heap.size ≤ bx by omega) _)
    have HO := Lib.hid (show Own (d' + 1) v (.agg #[.int .i64 yk, .slice ya1 yn1 ym1, .slice ya2 yn2 ym2, .slice ya3 yn3 ym3, .slice ya4 yn4 ym4, .slice ya5 yn5 ym5, .int .i64 yc, .int .i64 ye]) w3.heap.size bx w6 from hw6 ▸ HO.out.setOut (Nat.le_refl _))
    try rw [hw6]
    obtain ⟨w7, hw⟩ : ∃ W, w6.alloc (.cells #[] 9) = W := ⟨_, rfl⟩
    have KX := Lib.hid (show w7.heap[bx]? = some (.cells #[.int .i64 yk, .slice ya1 yn1 ym1, .slice ya2 yn2 ym2, .slice (some ⟨bx + 1, 0, none⟩) 0 0, .slice ya4 yn4 ym4, .slice ya5 yn5 ym5, .int .i64 yc, .int .i64 ye] 31 (0, 0)) from hw ▸ blk_old KX.out)
    have KA := Lib.hid (show w7.heap[w.heap.size]? = some (.cells #[.int .i64 kk, .slice ai items.length ci, .slice ap parts.length cp, .slice an names.length cn, .slice ac cls.length cc, .slice al levels.length cl, .int .i64 code, .int .i64 env] 31 (0, 0)) from hw ▸ blk_old KA.out)
    have KB := Lib.hid (show w7.heap[(w.heap.size + 1)]? = some (.cells #[.int .i64 3, .slice bi n dbi, .slice bp up.length dbp, .slice bn un.length dbn, .slice bc uc.length dbc, .slice bl ul.length dbl, .int .i64 uco, .int .i64 ue] 31 (0, 0)) from hw ▸ blk_old KB.out)
    have KR := Lib.hid (show w7.heap[(w.heap.size + 1 + 1)]? = some (.cells #[.int .i64 0, .slice none 0 0, .slice none 0 0, .slice none 0 0, .slice none 0 0, .slice none 0 0, .int .i64 0, .int .i64 0] 31 (0, 0)) from hw ▸ blk_old KR.out)
    have KE := Lib.hid (show w7.heap[bx + 1]? = some (.cells #[] 9 (0, 0)) from hw ▸ S6 ▸ blk_new w6 (.cells #[] 9) rfl)
    have B7 := Lib.hid (show Below w.heap.size w w7 from hw ▸ B6.out.alloc B6.out.size _)
    have HY := Lib.hid (⟨show Own (d' + 1) v (.agg #[.int .i64 yk, .slice ya1 yn1 ym1, .slice ya2 yn2 ym2, .slice ya3 yn3 ym3, .slice ya4 yn4 ym4, .slice ya5 yn5 ym5, .int .i64 yc, .int .i64 ye]) w3.heap.size bx w7 from hw ▸ HO.out.below (below1 w6 _) (by omega), by have := (Array.getElem?_eq_some_iff.1 KX.out).1; omega⟩ : OwnK6 (d' + 1) v (.agg #[.int .i64 yk, .slice ya1 yn1 ym1, .slice ya2 yn2 ym2, .slice ya3 yn3 ym3, .slice ya4 yn4 ym4, .slice ya5 yn5 ym5, .int .i64 yc, .int .i64 ye]) w3.heap.size bx w7)
    have TR := Lib.hid (show w7.ownsRow (bx + 1) 9 1 (.slice (some ⟨bx + 1, 0, none⟩) 0 0) 0 [] from ⟨rfl, .inr ⟨bx + 1, 0, #[], rfl, Nat.le_refl _, KE.out, Nat.le_refl _, Nat.zero_le _, rfl, rfl⟩⟩)
    have W0 := Lib.hid (show w.heap.size ≤ bx + 1 by omega)
    have W1 := Lib.hid (show w.heap.size ≤ bx by omega)
    rw [hw]
    clear hw hw6 KE HO B5 B6 S5' S6
    go_wp2
    go_loopw [7] (fun i wr => ∃ (k : Nat) (vn : Value), k ≤ L ∧ i = .int .i64 k ∧ Below w.heap.size w wr ∧ wr.heap[w.heap.size]? = some (.cells #[.int .i64 kk, .slice ai items.length ci, .slice ap parts.length cp, .slice an names.length cn, .slice ac cls.length cc, .slice al levels.length cl, .int .i64 code, .int .i64 env] 31 (0, 0)) ∧ wr.heap[(w.heap.size + 1)]? = some (.cells #[.int .i64 3, .slice bi n dbi, .slice bp up.length dbp, .slice bn un.length dbn, .slice bc uc.length dbc, .slice bl ul.length dbl, .int .i64 uco, .int .i64 ue] 31 (0, 0)) ∧ wr.heap[(w.heap.size + 1 + 1)]? = some (.cells #[.int .i64 0, .slice none 0 0, .slice none 0 0, .slice none 0 0, .slice none 0 0, .slice none 0 0, .int .i64 0, .int .i64 0] 31 (0, 0)) ∧ wr.heap[bx]? = some (.cells #[.int .i64 yk, .slice ya1 yn1 ym1, .slice ya2 yn2 ym2, vn, .slice ya4 yn4 ym4, .slice ya5 yn5 ym5, .int .i64 yc, .int .i64 ye] 31 (0, 0)) ∧ OwnK6 (d' + 1) v (.agg #[.int .i64 yk, .slice ya1 yn1 ym1, .slice ya2 yn2 ym2, .slice ya3 yn3 ym3, .slice ya4 yn4 ym4, .slice ya5 yn5 ym5, .int .i64 yc, .int .i64 ye]) w3.heap.size bx wr ∧ wr.ownsRow (bx + 1) 9 1 vn (padT T k).length ((padT T k).map Value.string)) (fun i _ => L - (intOf i).toNat)
    case atStart => exact ⟨0, .slice (some ⟨bx + 1, 0, none⟩) 0 0, Nat.zero_le _, rfl, B7.out, KA.out, KB.out, KR.out, KX.out, HY.out, TR.out⟩
    case round =>
      obtain ⟨k, vn, hk, rfl, hbw', hka, hkb, hkr, hkx, hy, ht⟩ := hrel
      have BW := Lib.hid hbw'
      have KA := Lib.hid hka
      have KB := Lib.hid hkb
      have KR := Lib.hid hkr
      have KX := Lib.hid hkx
      have HY := Lib.hid hy
      have TR := Lib.hid ht
      clear hbw' hka hkb hkr hkx hy ht
      obtain ⟨a0, a1, a2, a3, a4, a5, a6, a7⟩ := vec8 KA.out
      go_wp2_with fail
      with_reducible refine (LV.out _ BW.out).mono ?_
      rintro e wl ⟨rfl, b'⟩
      have BW := Lib.hid (below_then BW.out b')
      have KA := Lib.hid (blk_below b' KA.out)
      have KB := Lib.hid (blk_below b' KB.out)
      have KR := Lib.hid (blk_below b' KR.out)
      have KX := Lib.hid (blk_below b' KX.out)
      have HY := Lib.hid (HY.out.keep b')
      have TR := Lib.hid (ownsRow_below TR.out b')
      clear b' a0 a1 a2 a3 a4 a5 a6 a7
      obtain ⟨u0, u1, u2, u3, u4, u5, u6, u7⟩ := vec8 KB.out
      by_cases hlt : k < L
      · have PS := Lib.hid (padT_succ T k)
        by_cases hkn : k < n
        · obtain ⟨ba, off, rfl, hbB, c0, c1, c2'⟩ := AI.out k wl hkn BW.out
          have c2 : wl.cell? ⟨ba, off + k * 3 + 2, none⟩ = some (.string (T.getD k ⟨#[]⟩)) := TG.out k ▸ c2'
          obtain ⟨s, hs⟩ : ∃ s, T.getD k ⟨#[]⟩ = s := ⟨_, rfl⟩
          rw [hs] at c2 PS
          clear hs c2'
          have LN := Lib.hid (show (padT T k).length ≤ 1048576 by rw [padT_len]; omega)
          have FAR := Lib.hid (fun g hg => (TR.out.lt g hg).1)
          have BS := Lib.hid (show bx + 1 ≤ wl.heap.size from Nat.succ_le_of_lt (Array.getElem?_eq_some_iff.1 KX.out).1)
          have H := Lib.hid (show HeldC w wl ([(bx, 31, #[.int .i64 yk, .slice ya1 yn1 ym1, .slice ya2 yn2 ym2, vn, .slice ya4 yn4 ym4, .slice ya5 yn5 ym5, .int .i64 yc, .int .i64 ye])]) from heldC_cons ⟨BW.out, (fun _ h => by cases h)⟩ KX.out)
          have hwa := (Array.getElem?_eq_some_iff.1 KA.out).1
          have hwb := (Array.getElem?_eq_some_iff.1 KB.out).1
          have hwr := (Array.getElem?_eq_some_iff.1 KR.out).1
          go_upto_region 15 with (fail)
          refine run_region_seq (ops := (opsOf Try.f7 15)) (S := fun w' => HeldC w w' ([(bx, 31, #[.int .i64 yk, .slice ya1 yn1 ym1, .slice ya2 yn2 ym2, vn, .slice ya4 yn4 ym4, .slice ya5 yn5 ym5, .int .i64 yc, .int .i64 ye])])) [(0, true), (1, true), (2, true), (3, false), (4, false), (5, true), (6, false)] (by kernel_rfl) (by kernel_rfl) (by kernel_rfl) H.out ?_
          refine runC_partV (b := bx) (by kernel_rfl) (show opAt (opsOf Try.f7 15) 0 = some (some 72, .fieldAddr 31 (.tmp 6) 3, none) from by kernel_rfl) (by kernel_rfl) (by kernel_rfl) (by kernel_rfl) ?_
          refine runC_cell (b := bx) (j := 3) (v := vn) load_strs (show opAt (opsOf Try.f7 15) 1 = some (some 73, .load 24 (.tmp 72), none) from by kernel_rfl) (by kernel_rfl) (by kernel_rfl) (by kernel_rfl) (List.Mem.head _) rfl ?_
          refine run_mov (v := .string s) (show opAt (opsOf Try.f7 15) 2 = some (some 74, .move (.tmp 8), none) from by kernel_rfl) (by kernel_rfl) (by kernel_rfl) (by kernel_rfl) ?_
          refine tail_txs3 s (show opAt (opsOf Try.f7 15) 3 = some (some 75, .buildSlice 24 1 #[(0, (.tmp 74))], none) from by kernel_rfl) (by kernel_rfl) (by kernel_rfl) (show opAt (opsOf Try.f7 15) 4 = some (some 76, .call { callee := .builtin .append, args := [(.tmp 73), (.tmp 75)].toArray, argTypes := [24, 24].toArray }, none) from by kernel_rfl) (by kernel_rfl) (fun _ => by kernel_rfl) (show opAt (opsOf Try.f7 15) 5 = some (some 77, .fieldAddr 31 (.tmp 6) 3, none) from by kernel_rfl) (by kernel_rfl) (by kernel_rfl) (fun _ _ => by kernel_rfl) (show opAt (opsOf Try.f7 15) 6 = some (none, .store 24 (.tmp 77) (.tmp 76), none) from by kernel_rfl) (by kernel_rfl) (by kernel_rfl) H.out TR.out LN.out BS.out W0.out (List.Mem.head _) rfl (Nat.lt_succ_self _) W1.out (fun q hq k hk e => by obtain rfl := List.mem_singleton.1 hq; have := FAR.out _ hk; simp only at e; omega) ?_
          rintro v' wz ⟨sa, sn, sc, rfl⟩ hK hO hB hZ hR hG
          simp only [putAll, Act.put, List.setIfInBounds_toArray, List.set_cons_zero, List.set_cons_succ]
          have KA := Lib.hid (show wz.heap[w.heap.size]? = some (.cells #[.int .i64 kk, .slice ai items.length ci, .slice ap parts.length cp, .slice an names.length cn, .slice ac cls.length cc, .slice al levels.length cl, .int .i64 code, .int .i64 env] 31 (0, 0)) from (hG _ hwa (by have := S4.out; omega) (fun e => by have := FAR.out _ e; have := S4.out; omega)).trans KA.out)
          have KB := Lib.hid (show wz.heap[(w.heap.size + 1)]? = some (.cells #[.int .i64 3, .slice (some ⟨ba, off, none⟩) n dbi, .slice bp up.length dbp, .slice bn un.length dbn, .slice bc uc.length dbc, .slice bl ul.length dbl, .int .i64 uco, .int .i64 ue] 31 (0, 0)) from (hG _ hwb (by have := S4.out; omega) (fun e => by have := FAR.out _ e; have := S4.out; omega)).trans KB.out)
          have KR := Lib.hid (show wz.heap[(w.heap.size + 1 + 1)]? = some (.cells #[.int .i64 0, .slice none 0 0, .slice none 0 0, .slice none 0 0, .slice none 0 0, .slice none 0 0, .int .i64 0, .int .i64 0] 31 (0, 0)) from (hG _ hwr (by have := S4.out; omega) (fun e => by have := FAR.out _ e; have := S4.out; omega)).trans KR.out)
          have KX := Lib.hid (show wz.heap[bx]? = some (.cells #[.int .i64 yk, .slice ya1 yn1 ym1, .slice ya2 yn2 ym2, .slice sa sn sc, .slice ya4 yn4 ym4, .slice ya5 yn5 ym5, .int .i64 yc, .int .i64 ye] 31 (0, 0)) from hK)
          have HY := Lib.hid (HY.out.but (fun g hg => hG g (Nat.lt_of_lt_of_le hg HY.out.le) (by omega) (fun e => by have := FAR.out _ e; omega)) hZ)
          have TR := Lib.hid (show wz.ownsRow (bx + 1) 9 1 (.slice sa sn sc) (padT T (k + 1)).length ((padT T (k + 1)).map Value.string) from by rw [PS.out]; exact hO)
          have BW := Lib.hid hB
          clear hK hO hB hZ hR hG H FAR BS LN hwa hwb hwr
          go_wp2
          go_roundw
          case rel => exact ⟨k + 1, .slice sa sn sc, by omega, by go_num, BW.out, KA.out, KB.out, KR.out, KX.out, HY.out, TR.out⟩
          case measure => simp [intOf]; omega
        · have PS := Lib.hid (by have h := PS.out; rw [TZ.out k (by omega)] at h; exact h)
          have LN := Lib.hid (show (padT T k).length ≤ 1048576 by rw [padT_len]; omega)
          have FAR := Lib.hid (fun g hg => (TR.out.lt g hg).1)
          have BS := Lib.hid (show bx + 1 ≤ wl.heap.size from Nat.succ_le_of_lt (Array.getElem?_eq_some_iff.1 KX.out).1)
          have H := Lib.hid (show HeldC w wl ([(bx, 31, #[.int .i64 yk, .slice ya1 yn1 ym1, .slice ya2 yn2 ym2, vn, .slice ya4 yn4 ym4, .slice ya5 yn5 ym5, .int .i64 yc, .int .i64 ye])]) from heldC_cons ⟨BW.out, (fun _ h => by cases h)⟩ KX.out)
          have hwa := (Array.getElem?_eq_some_iff.1 KA.out).1
          have hwb := (Array.getElem?_eq_some_iff.1 KB.out).1
          have hwr := (Array.getElem?_eq_some_iff.1 KR.out).1
          go_upto_region 15 with (fail)
          refine run_region_seq (ops := (opsOf Try.f7 15)) (S := fun w' => HeldC w w' ([(bx, 31, #[.int .i64 yk, .slice ya1 yn1 ym1, .slice ya2 yn2 ym2, vn, .slice ya4 yn4 ym4, .slice ya5 yn5 ym5, .int .i64 yc, .int .i64 ye])])) [(0, true), (1, true), (2, true), (3, false), (4, false), (5, true), (6, false)] (by kernel_rfl) (by kernel_rfl) (by kernel_rfl) H.out ?_
          refine runC_partV (b := bx) (by kernel_rfl) (show opAt (opsOf Try.f7 15) 0 = some (some 72, .fieldAddr 31 (.tmp 6) 3, none) from by kernel_rfl) (by kernel_rfl) (by kernel_rfl) (by kernel_rfl) ?_
          refine runC_cell (b := bx) (j := 3) (v := vn) load_strs (show opAt (opsOf Try.f7 15) 1 = some (some 73, .load 24 (.tmp 72), none) from by kernel_rfl) (by kernel_rfl) (by kernel_rfl) (by kernel_rfl) (List.Mem.head _) rfl ?_
          refine run_mov (v := .string ⟨#[]⟩) (show opAt (opsOf Try.f7 15) 2 = some (some 74, .move (.tmp 8), none) from by kernel_rfl) (by kernel_rfl) (by kernel_rfl) (by kernel_rfl) ?_
          refine tail_txs3 ⟨#[]⟩ (show opAt (opsOf Try.f7 15) 3 = some (some 75, .buildSlice 24 1 #[(0, (.tmp 74))], none) from by kernel_rfl) (by kernel_rfl) (by kernel_rfl) (show opAt (opsOf Try.f7 15) 4 = some (some 76, .call { callee := .builtin .append, args := [(.tmp 73), (.tmp 75)].toArray, argTypes := [24, 24].toArray }, none) from by kernel_rfl) (by kernel_rfl) (fun _ => by kernel_rfl) (show opAt (opsOf Try.f7 15) 5 = some (some 77, .fieldAddr 31 (.tmp 6) 3, none) from by kernel_rfl) (by kernel_rfl) (by kernel_rfl) (fun _ _ => by kernel_rfl) (show opAt (opsOf Try.f7 15) 6 = some (none, .store 24 (.tmp 77) (.tmp 76), none) from by kernel_rfl) (by kernel_rfl) (by kernel_rfl) H.out TR.out LN.out BS.out W0.out (List.Mem.head _) rfl (Nat.lt_succ_self _) W1.out (fun q hq k hk e => by obtain rfl := List.mem_singleton.1 hq; have := FAR.out _ hk; simp only at e; omega) ?_
          rintro v' wz ⟨sa, sn, sc, rfl⟩ hK hO hB hZ hR hG
          simp only [putAll, Act.put, List.setIfInBounds_toArray, List.set_cons_zero, List.set_cons_succ]
          have KA := Lib.hid (show wz.heap[w.heap.size]? = some (.cells #[.int .i64 kk, .slice ai items.length ci, .slice ap parts.length cp, .slice an names.length cn, .slice ac cls.length cc, .slice al levels.length cl, .int .i64 code, .int .i64 env] 31 (0, 0)) from (hG _ hwa (by have := S4.out; omega) (fun e => by have := FAR.out _ e; have := S4.out; omega)).trans KA.out)
          have KB := Lib.hid (show wz.heap[(w.heap.size + 1)]? = some (.cells #[.int .i64 3, .slice bi n dbi, .slice bp up.length dbp, .slice bn un.length dbn, .slice bc uc.length dbc, .slice bl ul.length dbl, .int .i64 uco, .int .i64 ue] 31 (0, 0)) from (hG _ hwb (by have := S4.out; omega) (fun e => by have := FAR.out _ e; have := S4.out; omega)).trans KB.out)
          have KR := Lib.hid (show wz.heap[(w.heap.size + 1 + 1)]? = some (.cells #[.int .i64 0, .slice none 0 0, .slice none 0 0, .slice none 0 0, .slice none 0 0, .slice none 0 0, .int .i64 0, .int .i64 0] 31 (0, 0)) from (hG _ hwr (by have := S4.out; omega) (fun e => by have := FAR.out _ e; have := S4.out; omega)).trans KR.out)
          have KX := Lib.hid (show wz.heap[bx]? = some (.cells #[.int .i64 yk, .slice ya1 yn1 ym1, .slice ya2 yn2 ym2, .slice sa sn sc, .slice ya4 yn4 ym4, .slice ya5 yn5 ym5, .int .i64 yc, .int .i64 ye] 31 (0, 0)) from hK)
          have HY := Lib.hid (HY.out.but (fun g hg => hG g (Nat.lt_of_lt_of_le hg HY.out.le) (by omega) (fun e => by have := FAR.out _ e; omega)) hZ)
          have TR := Lib.hid (show wz.ownsRow (bx + 1) 9 1 (.slice sa sn sc) (padT T (k + 1)).length ((padT T (k + 1)).map Value.string) from by rw [PS.out]; exact hO)
          have BW := Lib.hid hB
          clear hK hO hB hZ hR hG H FAR BS LN hwa hwb hwr
          go_wp2
          go_roundw
          case rel => exact ⟨k + 1, .slice sa sn sc, by omega, by go_num, BW.out, KA.out, KB.out, KR.out, KX.out, HY.out, TR.out⟩
          case measure => simp [intOf]; omega
      · obtain rfl : k = L := by omega
        have NL := Lib.hid (show (padT T k).length ≤ 1048576 by rw [padT_len]; omega)
        have EQ := Lib.hid (show clnN (padT T k) = AN from AE.out.symm)
        obtain ⟨sn, qn, Fn, rfl, hot, hnd, hrt, hqn⟩ := txs_of_row TR.out
        have CLN := Lib.hid (fun (W : World) (hb : Below wl.heap.size wl W) => specCleanN yk yc ye ya1 ya2 sn ya4 ya5 yn1 ym1 yn2 ym2 qn yn4 ym4 yn5 ym5 (padT T k) (bx + 1) wl.heap.size W ((hot.at_ hrt).below hb (Nat.le_refl _)) hb.size NL.out)
        have HX := Lib.hid (show Own (d' + 1) (setN v (padT T k)) (.agg #[.int .i64 yk, .slice ya1 yn1 ym1, .slice ya2 yn2 ym2, .slice sn (padT T k).length qn, .slice ya4 yn4 ym4, .slice ya5 yn5 ym5, .int .i64 yc, .int .i64 ye]) w3.heap.size wl.heap.size wl from by
          have h := HY.out.out
          cases v with
          | mk kk items parts names cls levels code env => exact Own.setN h hot hnd hrt hqn (Nat.le_succ _) (by have := S4.out; omega) (by have := (Array.getElem?_eq_some_iff.1 KX.out).1; omega))
        clear hot hnd hrt hqn TR HY u0 u1 u2 u3 u4 u5 u6 u7
        obtain ⟨k0, k1, k2, k3, k4, k5, k6, k7⟩ := vec8 KX.out
        go_wp2_with fail
        refine (CLN.out _ (Below.refl _ _)).mono ?_
        rintro e w9 ⟨b', hor⟩
        have B9 := Lib.hid (below_then BW.out b')
        have KR := Lib.hid (blk_below b' KR.out)
        have HX := Lib.hid (HX.out.below b' (Nat.le_refl _))
        have S9 := Lib.hid b'.size
        clear b' k0 k1 k2 k3 k4 k5 k6 k7
        obtain ⟨z0, z1, z2, z3, z4, z5, z6, z7⟩ := vec8 KR.out
        obtain ⟨f0, f1, f2, f3, f4, f5, f6, f7⟩ := free8 KR.out
        rcases hor with ⟨hex, rfl⟩ | ⟨hem, g, hg, rfl⟩
        · have EN := Lib.hid (clnN_yes (l := (padT T k)) (by obtain ⟨i, h1, h2⟩ := hex; exact ⟨i, h1, fun h => h2 (empty_of_size h)⟩))
          have XX := Lib.hid (by have h := XX.out; rw [← EQ.out, EN.out] at h; exact h)
          clear EN hex EQ
          go_wp2
          rw [XX.out.1, XX.out.2]
          exact vec_endS rfl rfl rfl rfl KR.out ⟨_, rfl, (HX.out.put8 hr3 _ _ _ _ _ _ _ _).wide L3.out (by rw [put8_size]; exact S9.out), put8_below B9.out (by omega)⟩
        · have EN := Lib.hid (clnN_no (l := (padT T k)) (fun ⟨i, h1, h2⟩ => h2 (show (txtS _ i).size = 0 by rw [hem i h1]; rfl)))
          have XX := Lib.hid (by have h := XX.out; rw [← EQ.out, EN.out] at h; exact h)
          have HX := Lib.hid (show Own (d' + 1) (setN v []) (.agg #[.int .i64 yk, .slice ya1 yn1 ym1, .slice ya2 yn2 ym2, .slice (some ⟨g, 0, none⟩) 0 0, .slice ya4 yn4 ym4, .slice ya5 yn5 ym5, .int .i64 yc, .int .i64 ye]) w3.heap.size wl.heap.size w9 from by
            have h := HX.out
            cases v with
            | mk kk items parts names cls levels code env => exact Own.noNames h (some ⟨g, 0, none⟩) 0)
          clear EN hem hg EQ
          go_wp2
          rw [XX.out.1, XX.out.2]
          exact vec_endS rfl rfl rfl rfl KR.out ⟨_, rfl, (HX.out.put8 hr3 _ _ _ _ _ _ _ _).wide L3.out (by rw [put8_size]; exact S9.out), put8_below B9.out (by omega)⟩
  · have XX := Lib.hid (XN.out (fun h => qm (NM.out.1 h).2))
    clear NM XN XY UZ AE0
    go_upto_region 5 with (fail)
    have NR := Lib.hid (⟨KR.out⟩ : NewB (w.heap.size + 1 + 1) 31 #[.int .i64 0, .slice none 0 0, .slice none 0 0, .slice none 0 0, .slice none 0 0, .slice none 0 0, .int .i64 0, .int .i64 0] w3)
    have H := Lib.hid (show HeldC w3 w3 ([(w.heap.size, 31, #[.int .i64 kk, .slice ai items.length ci, .slice ap parts.length cp, .slice an names.length cn, .slice ac cls.length cc, .slice al levels.length cl, .int .i64 code, .int .i64 env]), ((w.heap.size + 1), 31, #[.int .i64 3, .slice bi n dbi, .slice bp up.length dbp, .slice bn un.length dbn, .slice bc uc.length dbc, .slice bl ul.length dbl, .int .i64 uco, .int .i64 ue])]) from heldC_two (Below.refl _ _) KA.out KB.out)
    refine run_regionT (ops := (opsOf Try.f7 5)) (S := fun w' => HeldC w3 w' ([(w.heap.size, 31, #[.int .i64 kk, .slice ai items.length ci, .slice ap parts.length cp, .slice an names.length cn, .slice ac cls.length cc, .slice al levels.length cl, .int .i64 code, .int .i64 env]), ((w.heap.size + 1), 31, #[.int .i64 3, .slice bi n dbi, .slice bp up.length dbp, .slice bn un.length dbn, .slice bc uc.length dbc, .slice bl ul.length dbl, .int .i64 uco, .int .i64 ue])])) (.leaf [(0, true), (1, true), (2, true), (3, true), (4, true), (5, true), (6, true), (7, true), (8, true), (9, true), (10, true), (11, true), (12, true), (13, false), (14, true), (15, true)]) (by kernel_rfl) (by kernel_rfl) (by kernel_rfl) (by kernel_rfl) (by kernel_rfl) (fun _ _ _ _ _ h => h) (heldC_drew H.out) ?_
    have H := Lib.hid (heldC_drew H.out)
    have NR := Lib.hid (NR.out.keep (below_drew' (Below.refl _ _)))
    refine runC_partV (b := (w.heap.size + 1)) (by kernel_rfl) (show opAt (opsOf Try.f7 5) 0 = some (some 29, .fieldAddr 31 (.tmp 3) 0, none) from by kernel_rfl) (by kernel_rfl) (by kernel_rfl) (by kernel_rfl) ?_
    refine runC_cell (b := (w.heap.size + 1)) (j := 0) (v := .int .i64 3) load_int (show opAt (opsOf Try.f7 5) 1 = some (some 30, .load 3 (.tmp 29), none) from by kernel_rfl) (by kernel_rfl) (by kernel_rfl) (by kernel_rfl) (List.Mem.tail _ (List.Mem.head _)) rfl ?_
    refine run_cmp (k := .i64) (p := 3) (q := 0) (b := true) (show opAt (opsOf Try.f7 5) 2 = some (some 31, .binOp .neq 3 (.tmp 30) (.const (.int .i64 0)) 3, none) from by kernel_rfl) (by kernel_rfl) (by kernel_rfl) (by kernel_rfl) (by kernel_rfl) (congrArg some (bne_iff_ne.2 (by decide))) ?_
    refine run_mov (v := .bool true) (show opAt (opsOf Try.f7 5) 3 = some (some 32, .move (.tmp 31), none) from by kernel_rfl) (by kernel_rfl) (by kernel_rfl) (by kernel_rfl) ?_
    refine runC_partV (b := (w.heap.size + 1)) (by kernel_rfl) (show opAt (opsOf Try.f7 5) 4 = some (some 33, .fieldAddr 31 (.tmp 3) 0, some (3, true)) from by kernel_rfl) (by kernel_rfl) (by kernel_rfl) (by kernel_rfl) ?_
    refine runC_cell (b := (w.heap.size + 1)) (j := 0) (v := .int .i64 3) load_int (show opAt (opsOf Try.f7 5) 5 = some (some 34, .load 3 (.tmp 33), some (3, true)) from by kernel_rfl) (by kernel_rfl) (by kernel_rfl) (by kernel_rfl) (List.Mem.tail _ (List.Mem.head _)) rfl ?_
    refine run_cmp (k := .i64) (p := 3) (q := 3) (b := false) (show opAt (opsOf Try.f7 5) 6 = some (some 35, .binOp .neq 3 (.tmp 34) (.const (.int .i64 3)) 3, some (3, true)) from by kernel_rfl) (by kernel_rfl) (by kernel_rfl) (by kernel_rfl) (by kernel_rfl) (congrArg some (bne_eq_false_iff_eq.2 rfl)) ?_
    refine run_pick (b := true) (v := .bool false) (show opAt (opsOf Try.f7 5) 7 = some (some 36, .pick (.tmp 32) (.tmp 35) (.const (.bool false)), none) from by kernel_rfl) (by kernel_rfl) (by kernel_rfl) (by kernel_rfl) (by kernel_rfl) ?_
    refine run_mov (v := .bool false) (show opAt (opsOf Try.f7 5) 8 = some (some 37, .move (.tmp 36), none) from by kernel_rfl) (by kernel_rfl) (by kernel_rfl) (by kernel_rfl) ?_
    refine runC_partV (b := (w.heap.size + 1)) (by kernel_rfl) (show opAt (opsOf Try.f7 5) 9 = some (some 38, .fieldAddr 31 (.tmp 3) 1, some (8, false)) from by kernel_rfl) (by kernel_rfl) (by kernel_rfl) (by kernel_rfl) ?_
    refine runC_cell (b := (w.heap.size + 1)) (j := 1) (v := .slice bi n dbi) load_its (show opAt (opsOf Try.f7 5) 10 = some (some 39, .load 28 (.tmp 38), some (8, false)) from by kernel_rfl) (by kernel_rfl) (by kernel_rfl) (by kernel_rfl) (List.Mem.tail _ (List.Mem.head _)) rfl ?_
    refine run_len (b := bi) (n := n) (c := dbi) (show opAt (opsOf Try.f7 5) 11 = some (some 40, .call { callee := .builtin .len, args := [(.tmp 39)].toArray, argTypes := [28].toArray }, some (8, false)) from by kernel_rfl) (by kernel_rfl) (by kernel_rfl) (by kernel_rfl) (by kernel_rfl) ?_
    refine runC_vec (b := w.heap.size) (show opAt (opsOf Try.f7 5) 12 = some (some 41, .load 31 (.tmp 2), some (8, false)) from by kernel_rfl) (by kernel_rfl) (by kernel_rfl) (by kernel_rfl) (List.Mem.head _) ?_
    refine run_call (args := [.agg #[.int .i64 kk, .slice ai items.length ci, .slice ap parts.length cp, .slice an names.length cn, .slice ac cls.length cc, .slice al levels.length cl, .int .i64 code, .int .i64 env]]) (show opAt (opsOf Try.f7 5) 13 = some (some 42, .call { callee := .value (.func 22), args := [(.tmp 41)].toArray, argTypes := [31].toArray }, some (8, false)) from by kernel_rfl) (by kernel_rfl) (by kernel_rfl) (by kernel_rfl) (by kernel_rfl) ?_
    refine (LV.out _ (below_then B3.out H.out.1)).mono ?_
    rintro en rw1 ⟨rfl, hb⟩
    refine ⟨_, rfl, heldC_call H.out hb, ?_⟩
    have H := Lib.hid (heldC_call H.out hb)
    have NR := Lib.hid (NR.out.keep hb)
    clear hb
    refine run_cmp (k := .i64) (p := (n : Int)) (q := (L : Int)) (b := true) (show opAt (opsOf Try.f7 5) 14 = some (some 43, .binOp .gtr 3 (.tmp 40) (.tmp 42) 3, some (8, false)) from by kernel_rfl) (by kernel_rfl) (by kernel_rfl) (by kernel_rfl) (by kernel_rfl) (congrArg some (decide_eq_true (by omega))) ?_
    refine run_pick (b := false) (v := .bool true) (show opAt (opsOf Try.f7 5) 15 = some (some 44, .pick (.tmp 37) (.const (.bool true)) (.tmp 43), none) from by kernel_rfl) (by kernel_rfl) (by kernel_rfl) (by kernel_rfl) (by kernel_rfl) ?_
    refine run_done ?_
    simp only [putAll, Act.put, List.setIfInBounds_toArray, List.set_cons_zero, List.set_cons_succ]
    have KR := Lib.hid NR.out.out
    have B4 := Lib.hid (below_then B3.out H.out.1)
    clear H NR k0 k1 k2 k3 k4 k5 k6 k7
    obtain ⟨z0, z1, z2, z3, z4, z5, z6, z7⟩ := vec8 KR.out
    obtain ⟨f0, f1, f2, f3, f4, f5, f6, f7⟩ := free8 KR.out
    go_wp2
    rw [XX.out.1, XX.out.2]
    exact vec_endS rfl rfl rfl rfl KR.out (zeroSA _ _ w _ (put8_below B4.out (by omega)))
end Go.Proofs.Yteoalkjngkcheaa

/- Names that are given, none: the reference. -/
namespace Go.Proofs.Yteoalkjngkcheaa
open Go.RowKit
set_option maxRecDepth 100000
set_option linter.unusedVariables false

set_option maxHeartbeats 8000000 in
theorem specAssignNames0 (d d2 : Nat) (v u : Vec) (val valu : Value) (lo hi : Nat) (w : World) (hv : VecAt lo hi w d v val) (hu : VecAt lo hi w d2 u valu) (hhi : hi ≤ w.heap.size) (hsm : Small d v) (hsu : Small d2 u) (h3 : kindV u = 0 ∧ ValidV v ∧ ValidV u ∧ ¬ kindV v = 0 ∧ ¬ kindV v = 5) :
    Calls Try.prog 7 #[val, valu] w (ResVS d (anV v u) (anS v u) w) := by
  have H3 := Lib.hid h3
  clear h3
  have C1 := Lib.hid (fun (W : World) (hb : Below w.heap.size w W) => specIsVector d v val lo hi W (hv.below hb hhi) (Nat.le_trans hhi hb.size) hsm)
  have C2 := Lib.hid (fun (W : World) (hb : Below w.heap.size w W) => specIsVector d2 u valu lo hi W (hu.below hb hhi) (Nat.le_trans hhi hb.size) hsu)
  have LV := Lib.hid (fun (W : World) (hb : Below w.heap.size w W) => specLenT d v val lo hi W (hv.below hb hhi) hsm)
  have CC := Lib.hid (fun (h : ValidV v) (W : World) (hb : Below w.heap.size w W) => (scvAll d).out v val lo hi W (hv.below hb hhi) (Nat.le_trans hhi hb.size) hsm (allIs_of d 3 v (Nat.le_refl _) h.1) (by have := h.1.flat.parts; omega))
  have L40 := Lib.hid (fun (h : ValidV v) => (h.1.flat.len : lengthV v ≤ 40))
  have XB := Lib.hid (fun h => an_bad (v := v) (w := u) h)
  have XE := Lib.hid (fun h h1 => an_el (v := v) (w := u) h h1)
  have XN := Lib.hid (fun h h1 h2 => an_no (v := v) (w := u) h h1 h2)
  have XY := Lib.hid (fun h h1 h2 => an_yes (v := v) (w := u) h h1 h2)
  have NM0 := Lib.hid (show NmGo v u ↔ (kindV u = 3 ∨ kindV u = 0) ∧ (itemsV u).length ≤ lengthV v from Iff.rfl)
  have NE := Lib.hid (show NoEl v ↔ kindV v = 0 ∨ kindV v = 5 from Iff.rfl)
  have AE := Lib.hid (show anN v u = clnN (padT (txL (itemsV u)) (lengthV v)) from rfl)
  have UZ0 := Lib.hid (fun (h : ValidV u) (h0 : kindV u = 0) => (by
    obtain ⟨kk, items, parts, names, cls, levels, code, env⟩ := u
    have hf : FlatOk kk items parts.length names cls levels code env := h.1.flat
    have := (hf.h_null h0).1
    show items.length = 0; omega : (itemsV u).length = 0))
  have AE00 := Lib.hid (fun (h : (itemsV u).length = 0) => (by
    show clnN (padT (txL (itemsV u)) (lengthV v)) = []
    refine clnN_no (fun ⟨i, h1, h2⟩ => h2 ?_)
    rw [List.eq_nil_of_length_eq_zero h]
    rw [padT_len] at h1
    rw [List.getD_eq_getElem?_getD]
    unfold padT
    rw [List.getElem?_map, List.getElem?_range h1]
    rfl : anN v u = []))
  obtain ⟨d', ed⟩ : ∃ d', d = d' + 1 := by
    cases v with
    | mk kk items parts names cls levels code env => obtain ⟨d', ai, ci, ap, cp, an, cn, ac, cc, al, cl, ed, _⟩ := vecAt_open hv; exact ⟨d', ed⟩
  subst ed
  obtain ⟨EV, hEV⟩ : ∃ y, anV v u = y := ⟨_, rfl⟩
  obtain ⟨ES, hES⟩ : ∃ y, anS v u = y := ⟨_, rfl⟩
  rw [hEV, hES] at XB XE XN XY ⊢
  have TG0 := Lib.hid (fun k => (txL_get (itemsV u) k).symm)
  have TZ0 := Lib.hid (fun k (h : (itemsV u).length ≤ k) => (by rw [txL_get, List.getD_eq_getElem?_getD, List.getElem?_eq_none h]; rfl : (txL (itemsV u)).getD k ⟨#[]⟩ = ⟨#[]⟩))
  obtain ⟨T, hT⟩ : ∃ T, txL (itemsV u) = T := ⟨_, rfl⟩
  rw [hT] at AE TG0 TZ0
  obtain ⟨L, hL'⟩ : ∃ x, lengthV v = x := ⟨_, rfl⟩
  rw [hL'] at LV L40 NM0 AE
  obtain ⟨AN, hAN⟩ : ∃ x, anN v u = x := ⟨_, rfl⟩
  rw [hAN] at AE AE00 XY
  obtain ⟨ku, ui, up, un, uc, ul, uco, ue⟩ := u
  obtain ⟨d2', bi, dbi, bp, dbp, bn, dbn, bc, dbc, bl, dbl, ed2, rfl, hI2, _⟩ := vecAt_open hu
  have AI := Lib.hid (fun (k : Nat) (W : World) (hk : k < ui.length) (hb : Below w.heap.size w W) => (hI2.below hb hhi).at_ hk)
  have NM := Lib.hid (show NmGo v (.mk ku ui up un uc ul uco ue) ↔ (ku = 3 ∨ ku = 0) ∧ ui.length ≤ L from NM0.out)
  have AE0 := Lib.hid (fun (h : ui.length = 0) => AE00.out h)
  have TG := Lib.hid (fun k => (by exact TG0.out k : (ui.getD k noI).t = T.getD k ⟨#[]⟩))
  have TZ := Lib.hid (fun k (h : ui.length ≤ k) => TZ0.out k h)
  have UZ := Lib.hid (fun h (h0 : ku = 0) => (by exact UZ0.out h h0 : ui.length = 0))
  clear NM0 UZ0 AE00 TG0 TZ0
  have EKU := Lib.hid (show kindV (.mk ku ui up un uc ul uco ue) = ku from rfl)
  obtain ⟨u, hu'⟩ : ∃ x, Vec.mk ku ui up un uc ul uco ue = x := ⟨_, rfl⟩
  rw [hu'] at C2 XB XE XN XY NM UZ EKU H3
  obtain ⟨n, hn⟩ : ∃ x, ui.length = x := ⟨_, rfl⟩
  rw [hn] at C2 AI NM AE0 TZ UZ ⊢
  have KV : kindV v = kindV v := rfl
  obtain ⟨VV, hVV⟩ : ∃ V, v = V := ⟨_, rfl⟩
  have KV : kindV v = kindV VV := by rw [hVV]
  rw [hVV] at C1 XB XE XN XY NM NE CC L40 H3
  obtain ⟨kk, items, parts, names, cls, levels, code, env⟩ := v
  obtain ⟨d'', ai, ci, ap, cp, an, cn, ac, cc, al, cl, ed, rfl, _⟩ := vecAt_open hv
  have XK : kindV VV = kk := by rw [← KV]; rfl
  obtain ⟨v, hvn⟩ : ∃ v, VV = v := ⟨_, rfl⟩
  rw [hvn] at C1 XB XE XN XY NM NE CC L40 XK H3
  clear hv hu hhi hsm hsu hEV hES hT hL' hAN hI2 ed2 hu' hn hVV hvn KV ed
  go_enter Try.func7, Try.ntmps7
  go_wp2_with fail
  obtain ⟨w1, hw1⟩ : ∃ W, ((w.alloc (.cells #[.int .i64 kk, .slice ai items.length ci, .slice ap parts.length cp, .slice an names.length cn, .slice ac cls.length cc, .slice al levels.length cl, .int .i64 code, .int .i64 env] 31)).alloc (.cells #[.int .i64 ku, .slice bi n dbi, .slice bp up.length dbp, .slice bn un.length dbn, .slice bc uc.length dbc, .slice bl ul.length dbl, .int .i64 uco, .int .i64 ue] 31)).alloc (.cells #[.int .i64 0, .slice none 0 0, .slice none 0 0, .slice none 0 0, .slice none 0 0, .slice none 0 0, .int .i64 0, .int .i64 0] 31) = W := ⟨_, rfl⟩
  have hs1 : (w.alloc (.cells #[.int .i64 kk, .slice ai items.length ci, .slice ap parts.length cp, .slice an names.length cn, .slice ac cls.length cc, .slice al levels.length cl, .int .i64 code, .int .i64 env] 31)).heap.size = w.heap.size + 1 := by simp
  have hs2 : ((w.alloc (.cells #[.int .i64 kk, .slice ai items.length ci, .slice ap parts.length cp, .slice an names.length cn, .slice ac cls.length cc, .slice al levels.length cl, .int .i64 code, .int .i64 env] 31)).alloc (.cells #[.int .i64 ku, .slice bi n dbi, .slice bp up.length dbp, .slice bn un.length dbn, .slice bc uc.length dbc, .slice bl ul.length dbl, .int .i64 uco, .int .i64 ue] 31)).heap.size = w.heap.size + 1 + 1 := by simp
  have B1 := Lib.hid (show Below w.heap.size w w1 from hw1 ▸ (((below1 w _).alloc (by simp) _).alloc (by simp; omega) _))
  have KA := Lib.hid (show w1.heap[w.heap.size]? = some (.cells #[.int .i64 kk, .slice ai items.length ci, .slice ap parts.length cp, .slice an names.length cn, .slice ac cls.length cc, .slice al levels.length cl, .int .i64 code, .int .i64 env] 31 (0, 0)) from hw1 ▸ blk_old (blk_old (blk_new w _ rfl)))
  have KB := Lib.hid (show w1.heap[(w.heap.size + 1)]? = some (.cells #[.int .i64 ku, .slice bi n dbi, .slice bp up.length dbp, .slice bn un.length dbn, .slice bc uc.length dbc, .slice bl ul.length dbl, .int .i64 uco, .int .i64 ue] 31 (0, 0)) from hw1 ▸ blk_old (hs1 ▸ blk_new (w.alloc (.cells #[.int .i64 kk, .slice ai items.length ci, .slice ap parts.length cp, .slice an names.length cn, .slice ac cls.length cc, .slice al levels.length cl, .int .i64 code, .int .i64 env] 31)) (.cells #[.int .i64 ku, .slice bi n dbi, .slice bp up.length dbp, .slice bn un.length dbn, .slice bc uc.length dbc, .slice bl ul.length dbl, .int .i64 uco, .int .i64 ue] 31) rfl))
  have KR := Lib.hid (show w1.heap[(w.heap.size + 1 + 1)]? = some (.cells #[.int .i64 0, .slice none 0 0, .slice none 0 0, .slice none 0 0, .slice none 0 0, .slice none 0 0, .int .i64 0, .int .i64 0] 31 (0, 0)) from hw1 ▸ hs2 ▸ blk_new ((w.alloc (.cells #[.int .i64 kk, .slice ai items.length ci, .slice ap parts.length cp, .slice an names.length cn, .slice ac cls.length cc, .slice al levels.length cl, .int .i64 code, .int .i64 env] 31)).alloc (.cells #[.int .i64 ku, .slice bi n dbi, .slice bp up.length dbp, .slice bn un.length dbn, .slice bc uc.length dbc, .slice bl ul.length dbl, .int .i64 uco, .int .i64 ue] 31)) (.cells #[.int .i64 0, .slice none 0 0, .slice none 0 0, .slice none 0 0, .slice none 0 0, .slice none 0 0, .int .i64 0, .int .i64 0] 31) rfl)
  have Z1 := Lib.hid (show w1.heap.size = w.heap.size + 1 + 1 + 1 from hw1 ▸ (by simp))
  rw [hw1]
  clear hw1 hs1 hs2
  with_reducible refine (C1.out _ B1.out).mono ?_
  rintro e w2 ⟨rfl, b⟩
  have B2 := Lib.hid (below_then B1.out b)
  have KA := Lib.hid (blk_below b KA.out)
  have KB := Lib.hid (blk_below b KB.out)
  have KR := Lib.hid (blk_below b KR.out)
  clear b C1
  obtain ⟨qk, qv, qu, q0, q5⟩ := H3.out
  rw [bB_yes qv]
  obtain ⟨k0, k1, k2, k3, k4, k5, k6, k7⟩ := vec8 KB.out
  go_wp2_with fail
  with_reducible refine (C2.out _ B2.out).mono ?_
  rintro e w3 ⟨rfl, b⟩
  have B3 := Lib.hid (below_then B2.out b)
  have KA := Lib.hid (blk_below b KA.out)
  have KB := Lib.hid (blk_below b KB.out)
  have KR := Lib.hid (blk_below b KR.out)
  clear b C2 k0 k1 k2 k3 k4 k5 k6 k7
  have hne : ¬ NoEl v := fun h => (NE.out.1 h).elim q0 q5
  have XN := Lib.hid (fun h2 => XN.out ⟨qv, qu⟩ hne h2)
  have XY := Lib.hid (fun h2 => XY.out ⟨qv, qu⟩ hne h2)
  have L40 := L40.out qv
  have UZ := Lib.hid (fun h0 => UZ.out qu h0)
  have CC := Lib.hid (CC.out qv)
  rw [bB_yes qu]
  have h0b : (kk == 0) = false := beq_eq_false_iff_ne.2 (fun e => q0 (XK.trans e))
  have h5b : (kk == 5) = false := beq_eq_false_iff_ne.2 (fun e => q5 (XK.trans e))
  have HQ := Lib.hid (EKU.out.symm.trans qk)
  clear qk qv qu q0 q5 hne XB XE NE XK H3 EKU
  obtain ⟨k0, k1, k2, k3, k4, k5, k6, k7⟩ := vec8 KA.out
  have hq0 := HQ.out
  clear HQ
  have n0 := UZ.out hq0
  subst hq0
  have XX := Lib.hid (XY.out (NM.out.2 ⟨.inr rfl, by omega⟩))
  have AE0 := Lib.hid (AE0.out n0)
  clear NM XN XY UZ
  go_upto_region 5 with (fail)
  have NR := Lib.hid (⟨KR.out⟩ : NewB (w.heap.size + 1 + 1) 31 #[.int .i64 0, .slice none 0 0, .slice none 0 0, .slice none 0 0, .slice none 0 0, .slice none 0 0, .int .i64 0, .int .i64 0] w3)
  have H := Lib.hid (show HeldC w3 w3 ([(w.heap.size, 31, #[.int .i64 kk, .slice ai items.length ci, .slice ap parts.length cp, .slice an names.length cn, .slice ac cls.length cc, .slice al levels.length cl, .int .i64 code, .int .i64 env]), ((w.heap.size + 1), 31, #[.int .i64 0, .slice bi n dbi, .slice bp up.length dbp, .slice bn un.length dbn, .slice bc uc.length dbc, .slice bl ul.length dbl, .int .i64 uco, .int .i64 ue])]) from heldC_two (Below.refl _ _) KA.out KB.out)
  refine run_regionT (ops := (opsOf Try.f7 5)) (S := fun w' => HeldC w3 w' ([(w.heap.size, 31, #[.int .i64 kk, .slice ai items.length ci, .slice ap parts.length cp, .slice an names.length cn, .slice ac cls.length cc, .slice al levels.length cl, .int .i64 code, .int .i64 env]), ((w.heap.size + 1), 31, #[.int .i64 0, .slice bi n dbi, .slice bp up.length dbp, .slice bn un.length dbn, .slice bc uc.length dbc, .slice bl ul.length dbl, .int .i64 uco, .int .i64 ue])])) (.leaf [(0, true), (1, true), (2, true), (3, true), (4, true), (5, true), (6, true), (7, true), (8, true), (9, true), (10, true), (11, true), (12, true), (13, false), (14, true), (15, true)]) (by kernel_rfl) (by kernel_rfl) (by kernel_rfl) (by kernel_rfl) (by kernel_rfl) (fun _ _ _ _ _ h => h) (heldC_drew H.out) ?_
  have H := Lib.hid (heldC_drew H.out)
  have NR := Lib.hid (NR.out.keep (below_drew' (Below.refl _ _)))
  refine runC_partV (b := (w.heap.size + 1)) (by kernel_rfl) (show opAt (opsOf Try.f7 5) 0 = some (some 29, .fieldAddr 31 (.tmp 3) 0, none) from by kernel_rfl) (by kernel_rfl) (by kernel_rfl) (by kernel_rfl) ?_
  refine runC_cell (b := (w.heap.size + 1)) (j := 0) (v := .int .i64 0) load_int (show opAt (opsOf Try.f7 5) 1 = some (some 30, .load 3 (.tmp 29), none) from by kernel_rfl) (by kernel_rfl) (by kernel_rfl) (by kernel_rfl) (List.Mem.tail _ (List.Mem.head _)) rfl ?_
  refine run_cmp (k := .i64) (p := 0) (q := 0) (b := false) (show opAt (opsOf Try.f7 5) 2 = some (some 31, .binOp .neq 3 (.tmp 30) (.const (.int .i64 0)) 3, none) from by kernel_rfl) (by kernel_rfl) (by kernel_rfl) (by kernel_rfl) (by kernel_rfl) (congrArg some (bne_eq_false_iff_eq.2 rfl)) ?_
  refine run_mov (v := .bool false) (show opAt (opsOf Try.f7 5) 3 = some (some 32, .move (.tmp 31), none) from by kernel_rfl) (by kernel_rfl) (by kernel_rfl) (by kernel_rfl) ?_
  refine run_skip (show opAt (opsOf Try.f7 5) 4 = some (some 33, .fieldAddr 31 (.tmp 3) 0, some (3, true)) from by kernel_rfl) (by kernel_rfl) (by kernel_rfl) ?_
  refine run_skip (show opAt (opsOf Try.f7 5) 5 = some (some 34, .load 3 (.tmp 33), some (3, true)) from by kernel_rfl) (by kernel_rfl) (by kernel_rfl) ?_
  refine run_skip (show opAt (opsOf Try.f7 5) 6 = some (some 35, .binOp .neq 3 (.tmp 34) (.const (.int .i64 3)) 3, some (3, true)) from by kernel_rfl) (by kernel_rfl) (by kernel_rfl) ?_
  refine run_pick (b := false) (v := .bool false) (show opAt (opsOf Try.f7 5) 7 = some (some 36, .pick (.tmp 32) (.tmp 35) (.const (.bool false)), none) from by kernel_rfl) (by kernel_rfl) (by kernel_rfl) (by kernel_rfl) (by kernel_rfl) ?_
  refine run_mov (v := .bool false) (show opAt (opsOf Try.f7 5) 8 = some (some 37, .move (.tmp 36), none) from by kernel_rfl) (by kernel_rfl) (by kernel_rfl) (by kernel_rfl) ?_
  refine runC_partV (b := (w.heap.size + 1)) (by kernel_rfl) (show opAt (opsOf Try.f7 5) 9 = some (some 38, .fieldAddr 31 (.tmp 3) 1, some (8, false)) from by kernel_rfl) (by kernel_rfl) (by kernel_rfl) (by kernel_rfl) ?_
  refine runC_cell (b := (w.heap.size + 1)) (j := 1) (v := .slice bi n dbi) load_its (show opAt (opsOf Try.f7 5) 10 = some (some 39, .load 28 (.tmp 38), some (8, false)) from by kernel_rfl) (by kernel_rfl) (by kernel_rfl) (by kernel_rfl) (List.Mem.tail _ (List.Mem.head _)) rfl ?_
  refine run_len (b := bi) (n := n) (c := dbi) (show opAt (opsOf Try.f7 5) 11 = some (some 40, .call { callee := .builtin .len, args := [(.tmp 39)].toArray, argTypes := [28].toArray }, some (8, false)) from by kernel_rfl) (by kernel_rfl) (by kernel_rfl) (by kernel_rfl) (by kernel_rfl) ?_
  refine runC_vec (b := w.heap.size) (show opAt (opsOf Try.f7 5) 12 = some (some 41, .load 31 (.tmp 2), some (8, false)) from by kernel_rfl) (by kernel_rfl) (by kernel_rfl) (by kernel_rfl) (List.Mem.head _) ?_
  refine run_call (args := [.agg #[.int .i64 kk, .slice ai items.length ci, .slice ap parts.length cp, .slice an names.length cn, .slice ac cls.length cc, .slice al levels.length cl, .int .i64 code, .int .i64 env]]) (show opAt (opsOf Try.f7 5) 13 = some (some 42, .call { callee := .value (.func 22), args := [(.tmp 41)].toArray, argTypes := [31].toArray }, some (8, false)) from by kernel_rfl) (by kernel_rfl) (by kernel_rfl) (by kernel_rfl) (by kernel_rfl) ?_
  refine (LV.out _ (below_then B3.out H.out.1)).mono ?_
  rintro en rw1 ⟨rfl, hb⟩
  refine ⟨_, rfl, heldC_call H.out hb, ?_⟩
  have H := Lib.hid (heldC_call H.out hb)
  have NR := Lib.hid (NR.out.keep hb)
  clear hb
  refine run_cmp (k := .i64) (p := (n : Int)) (q := (L : Int)) (b := false) (show opAt (opsOf Try.f7 5) 14 = some (some 43, .binOp .gtr 3 (.tmp 40) (.tmp 42) 3, some (8, false)) from by kernel_rfl) (by kernel_rfl) (by kernel_rfl) (by kernel_rfl) (by kernel_rfl) (congrArg some (decide_eq_false (by omega))) ?_
  refine run_pick (b := false) (v := .bool false) (show opAt (opsOf Try.f7 5) 15 = some (some 44, .pick (.tmp 37) (.const (.bool true)) (.tmp 43), none) from by kernel_rfl) (by kernel_rfl) (by kernel_rfl) (by kernel_rfl) (by kernel_rfl) ?_
  refine run_done ?_
  simp only [putAll, Act.put, List.setIfInBounds_toArray, List.set_cons_zero, List.set_cons_succ]
  clear k0 k1 k2 k3 k4 k5 k6 k7
  obtain ⟨w3', hw3⟩ : ∃ W, rw1 = W := ⟨_, rfl⟩
  rw [hw3] at H NR ⊢
  clear hw3
  have KA := Lib.hid (heldC_at H.out (List.Mem.head _))
  have KB := Lib.hid (heldC_at H.out (List.Mem.tail _ (List.Mem.head _)))
  have KR := Lib.hid NR.out.out
  have B3 := Lib.hid (below_then B3.out H.out.1)
  clear H NR
  obtain ⟨w3, hw3⟩ : ∃ W, w3' = W := ⟨_, rfl⟩
  rw [hw3] at KA KB KR B3 ⊢
  clear hw3
  obtain ⟨k0, k1, k2, k3, k4, k5, k6, k7⟩ := vec8 KA.out
  go_wp2_with fail
  refine (CC.out _ B3.out).mono ?_
  rintro e w4 ⟨y, rfl, ho, b⟩
  obtain ⟨yk, ya1, yn1, ym1, ya2, yn2, ym2, ya3, yn3, ym3, ya4, yn4, ym4, ya5, yn5, ym5, yc, ye, rfl⟩ := ho.agg
  have L3 := Lib.hid B3.out.size
  have hr3 := (Array.getElem?_eq_some_iff.1 KR.out).1
  have B4 := Lib.hid (below_then B3.out b)
  have HO := Lib.hid ho
  have S4 := Lib.hid b.size
  have KA := Lib.hid (blk_below b KA.out)
  have KB := Lib.hid (blk_below b KB.out)
  have KR := Lib.hid (blk_below b KR.out)
  clear b ho k0 k1 k2 k3 k4 k5 k6 k7 CC
  go_upto_region 8 with (fail)
  obtain ⟨w5, hw5⟩ : ∃ W, w4.alloc (.cells #[.int .i64 yk, .slice ya1 yn1 ym1, .slice ya2 yn2 ym2, .slice ya3 yn3 ym3, .slice ya4 yn4 ym4, .slice ya5 yn5 ym5, .int .i64 yc, .int .i64 ye] 31) = W := ⟨_, rfl⟩
  have KX := Lib.hid (show w5.heap[w4.heap.size]? = some (.cells #[.int .i64 yk, .slice ya1 yn1 ym1, .slice ya2 yn2 ym2, .slice ya3 yn3 ym3, .slice ya4 yn4 ym4, .slice ya5 yn5 ym5, .int .i64 yc, .int .i64 ye] 31 (0, 0)) from hw5 ▸ blk_new w4 _ rfl)
  have KA := Lib.hid (show w5.heap[w.heap.size]? = some (.cells #[.int .i64 kk, .slice ai items.length ci, .slice ap parts.length cp, .slice an names.length cn, .slice ac cls.length cc, .slice al levels.length cl, .int .i64 code, .int .i64 env] 31 (0, 0)) from hw5 ▸ blk_old KA.out)
  have KB := Lib.hid (show w5.heap[(w.heap.size + 1)]? = some (.cells #[.int .i64 0, .slice bi n dbi, .slice bp up.length dbp, .slice bn un.length dbn, .slice bc uc.length dbc, .slice bl ul.length dbl, .int .i64 uco, .int .i64 ue] 31 (0, 0)) from hw5 ▸ blk_old KB.out)
  have KR := Lib.hid (show w5.heap[(w.heap.size + 1 + 1)]? = some (.cells #[.int .i64 0, .slice none 0 0, .slice none 0 0, .slice none 0 0, .slice none 0 0, .slice none 0 0, .int .i64 0, .int .i64 0] 31 (0, 0)) from hw5 ▸ blk_old KR.out)
  have B5 := Lib.hid (show Below w.heap.size w w5 from hw5 ▸ B4.out.alloc B4.out.size _)
  have S5 := Lib.hid (show w5.heap.size = w4.heap.size + 1 from hw5 ▸ (by simp))
  have HO := Lib.hid (show Own (d' + 1) v (.agg #[.int .i64 yk, .slice ya1 yn1 ym1, .slice ya2 yn2 ym2, .slice ya3 yn3 ym3, .slice ya4 yn4 ym4, .slice ya5 yn5 ym5, .int .i64 yc, .int .i64 ye]) w3.heap.size w4.heap.size w5 from hw5 ▸ HO.out.below (below1 w4 _) (Nat.le_refl _))
  rw [hw5]
  clear hw5
  obtain ⟨bx, hbx⟩ : ∃ b, w4.heap.size = b := ⟨_, rfl⟩
  rw [hbx] at KX HO S5 S4 ⊢
  clear hbx B4
  have S5' := S5.out
  obtain ⟨k0, k1, k2, k3, k4, k5, k6, k7⟩ := vec8 KX.out
  obtain ⟨g0, g1, g2, g3, g4, g5, g6, g7⟩ := free8 KX.out
  have hbw := (Array.getElem?_eq_some_iff.1 KX.out).1
  go_upto_region 9 with (fail)
  clear k0 k1 k2 k3 k4 k5 k6 k7 g0 g1 g2 g3 g4 g5 g6 g7 hbw
  have hxr : w.heap.size + 1 + 1 < bx := by have := S4.out; omega
  obtain ⟨w6, hw6⟩ : ∃ W, w5.setCell ⟨bx, 3, none⟩ (.slice (some ⟨bx + 1, 0, none⟩) 0 0) = W := ⟨_, rfl⟩
  have S6 : w6.heap.size = bx + 1 := by rw [← hw6]; simp; omega
  have KX := Lib.hid (show w6.heap[bx]? = some (.cells #[.int .i64 yk, .slice ya1 yn1 ym1, .slice ya2 yn2 ym2, .slice (some ⟨bx + 1, 0, none⟩) 0 0, .slice ya4 yn4 ym4, .slice ya5 yn5 ym5, .int .i64 yc, .int .i64 ye] 31 (0, 0)) from hw6 ▸ Joins.block_setCell KX.out _)
  have KA := Lib.hid (show w6.heap[w.heap.size]? = some (.cells #[.int .i64 kk, .slice ai items.length ci, .slice ap parts.length cp, .slice an names.length cn, .slice ac cls.length cc, .slice al levels.length cl, .int .i64 code, .int .i64 env] 31 (0, 0)) from hw6 ▸ (Below.heap_setCell _ _ _ _ (show w.heap.size ≠ bx by omega)).trans KA.out)
  have KB := Lib.hid (show w6.heap[(w.heap.size + 1)]? = some (.cells #[.int .i64 0, .slice bi n dbi, .slice bp up.length dbp, .slice bn un.length dbn, .slice bc uc.length dbc, .slice bl ul.length dbl, .int .i64 uco, .int .i64 ue] 31 (0, 0)) from hw6 ▸ (Below.heap_setCell _ _ _ _ (show (w.heap.size + 1) ≠ bx by omega)).trans KB.out)
  have KR := Lib.hid (show w6.heap[(w.heap.size + 1 + 1)]? = some (.cells #[.int .i64 0, .slice none 0 0, .slice none 0 0, .slice none 0 0, .slice none 0 0, .slice none 0 0, .int .i64 0, .int .i64 0] 31 (0, 0)) from hw6 ▸ (Below.heap_setCell _ _ _ _ (show (w.heap.size + 1 + 1) ≠ bx by omega)).trans KR.out)
  have B6 := Lib.hid (show Below w.heap.size w w6 from hw6 ▸ B5.out.setCell (p := ⟨bx, 3, none⟩) (show w.heap.size ≤ bx by omega) _)
  have HO := Lib.hid (show Own (d' + 1) v (.agg #[.int .i64 yk, .slice ya1 yn1 ym1, .slice ya2 yn2 ym2, .slice ya3 yn3 ym3, .slice ya4 yn4 ym4, .slice ya5 yn5 ym5, .int .i64 yc, .int .i64 ye]) w3.heap.size bx w6 from hw6 ▸ HO.out.setOut (Nat.le_refl _))
  try rw [hw6]
  obtain ⟨w7, hw⟩ : ∃ W, w6.alloc (.cells #[] 9) = W := ⟨_, rfl⟩
  have KX := Lib.hid (show w7.heap[bx]? = some (.cells #[.int .i64 yk, .slice ya1 yn1 ym1, .slice ya2 yn2 ym2, .slice (some ⟨bx + 1, 0, none⟩) 0 0, .slice ya4 yn4 ym4, .slice ya5 yn5 ym5, .int .i64 yc, .int .i64 ye] 31 (0, 0)) from hw ▸ blk_old KX.out)
  have KA := Lib.hid (show w7.heap[w.heap.size]? = some (.cells #[.int .i64 kk, .slice ai items.length ci, .slice ap parts.length cp, .slice an names.length cn, .slice ac cls.length cc, .slice al levels.length cl, .int .i64 code, .int .i64 env] 31 (0, 0)) from hw ▸ blk_old KA.out)
  have KB := Lib.hid (show w7.heap[(w.heap.size + 1)]? = some (.cells #[.int .i64 0, .slice bi n dbi, .slice bp up.length dbp, .slice bn un.length dbn, .slice bc uc.length dbc, .slice bl ul.length dbl, .int .i64 uco, .int .i64 ue] 31 (0, 0)) from hw ▸ blk_old KB.out)
  have KR := Lib.hid (show w7.heap[(w.heap.size + 1 + 1)]? = some (.cells #[.int .i64 0, .slice none 0 0, .slice none 0 0, .slice none 0 0, .slice none 0 0, .slice none 0 0, .int .i64 0, .int .i64 0] 31 (0, 0)) from hw ▸ blk_old KR.out)
  have KE := Lib.hid (show w7.heap[bx + 1]? = some (.cells #[] 9 (0, 0)) from hw ▸ S6 ▸ blk_new w6 (.cells #[] 9) rfl)
  have B7 := Lib.hid (show Below w.heap.size w w7 from hw ▸ B6.out.alloc B6.out.size _)
  have HY := Lib.hid (⟨show Own (d' + 1) v (.agg #[.int .i64 yk, .slice ya1 yn1 ym1, .slice ya2 yn2 ym2, .slice ya3 yn3 ym3, .slice ya4 yn4 ym4, .slice ya5 yn5 ym5, .int .i64 yc, .int .i64 ye]) w3.heap.size bx w7 from hw ▸ HO.out.below (below1 w6 _) (by omega), by have := (Array.getElem?_eq_some_iff.1 KX.out).1; omega⟩ : OwnK6 (d' + 1) v (.agg #[.int .i64 yk, .slice ya1 yn1 ym1, .slice ya2 yn2 ym2, .slice ya3 yn3 ym3, .slice ya4 yn4 ym4, .slice ya5 yn5 ym5, .int .i64 yc, .int .i64 ye]) w3.heap.size bx w7)
  have TR := Lib.hid (show w7.ownsRow (bx + 1) 9 1 (.slice (some ⟨bx + 1, 0, none⟩) 0 0) 0 [] from ⟨rfl, .inr ⟨bx + 1, 0, #[], rfl, Nat.le_refl _, KE.out, Nat.le_refl _, Nat.zero_le _, rfl, rfl⟩⟩)
  have W0 := Lib.hid (show w.heap.size ≤ bx + 1 by omega)
  have W1 := Lib.hid (show w.heap.size ≤ bx by omega)
  rw [hw]
  clear hw hw6 KE HO B5 B6 S5' S6
  go_wp2
  go_loopw [7] (fun i wr => ∃ (k : Nat) (vn : Value), k ≤ 0 ∧ i = .int .i64 k ∧ Below w.heap.size w wr ∧ wr.heap[w.heap.size]? = some (.cells #[.int .i64 kk, .slice ai items.length ci, .slice ap parts.length cp, .slice an names.length cn, .slice ac cls.length cc, .slice al levels.length cl, .int .i64 code, .int .i64 env] 31 (0, 0)) ∧ wr.heap[(w.heap.size + 1)]? = some (.cells #[.int .i64 0, .slice bi n dbi, .slice bp up.length dbp, .slice bn un.length dbn, .slice bc uc.length dbc, .slice bl ul.length dbl, .int .i64 uco, .int .i64 ue] 31 (0, 0)) ∧ wr.heap[(w.heap.size + 1 + 1)]? = some (.cells #[.int .i64 0, .slice none 0 0, .slice none 0 0, .slice none 0 0, .slice none 0 0, .slice none 0 0, .int .i64 0, .int .i64 0] 31 (0, 0)) ∧ wr.heap[bx]? = some (.cells #[.int .i64 yk, .slice ya1 yn1 ym1, .slice ya2 yn2 ym2, vn, .slice ya4 yn4 ym4, .slice ya5 yn5 ym5, .int .i64 yc, .int .i64 ye] 31 (0, 0)) ∧ OwnK6 (d' + 1) v (.agg #[.int .i64 yk, .slice ya1 yn1 ym1, .slice ya2 yn2 ym2, .slice ya3 yn3 ym3, .slice ya4 yn4 ym4, .slice ya5 yn5 ym5, .int .i64 yc, .int .i64 ye]) w3.heap.size bx wr ∧ wr.ownsRow (bx + 1) 9 1 vn (([] : List ByteArray)).length ((([] : List ByteArray)).map Value.string)) (fun i _ => 0)
  case atStart => exact ⟨0, .slice (some ⟨bx + 1, 0, none⟩) 0 0, Nat.zero_le _, rfl, B7.out, KA.out, KB.out, KR.out, KX.out, HY.out, TR.out⟩
  case round =>
    obtain ⟨k, vn, hk, rfl, hbw', hka, hkb, hkr, hkx, hy, ht⟩ := hrel
    have BW := Lib.hid hbw'
    have KA := Lib.hid hka
    have KB := Lib.hid hkb
    have KR := Lib.hid hkr
    have KX := Lib.hid hkx
    have HY := Lib.hid hy
    have TR := Lib.hid ht
    clear hbw' hka hkb hkr hkx hy ht
    obtain rfl : k = 0 := by omega
    obtain ⟨a0, a1, a2, a3, a4, a5, a6, a7⟩ := vec8 KA.out
    go_wp2_with fail
    with_reducible refine (LV.out _ BW.out).mono ?_
    rintro e wl ⟨rfl, b'⟩
    have BW := Lib.hid (below_then BW.out b')
    have KA := Lib.hid (blk_below b' KA.out)
    have KB := Lib.hid (blk_below b' KB.out)
    have KR := Lib.hid (blk_below b' KR.out)
    have KX := Lib.hid (blk_below b' KX.out)
    have HY := Lib.hid (HY.out.keep b')
    have TR := Lib.hid (ownsRow_below TR.out b')
    clear b' a0 a1 a2 a3 a4 a5 a6 a7
    obtain ⟨u0, u1, u2, u3, u4, u5, u6, u7⟩ := vec8 KB.out
    have NL := Lib.hid (show ([] : List ByteArray).length ≤ 1048576 from Nat.zero_le _)
    have EQ := Lib.hid (show clnN ([] : List ByteArray) = AN from (clnN_no (fun ⟨i, h, _⟩ => absurd h (Nat.not_lt_zero _))).trans AE0.out.symm)
    by_cases hL0 : 0 < L
    · have hL0' : (0 : Int) < (L : Int) := by omega
      obtain ⟨sn, qn, Fn, rfl, hot, hnd, hrt, hqn⟩ := txs_of_row TR.out
      have CLN := Lib.hid (fun (W : World) (hb : Below wl.heap.size wl W) => specCleanN yk yc ye ya1 ya2 sn ya4 ya5 yn1 ym1 yn2 ym2 qn yn4 ym4 yn5 ym5 ([] : List ByteArray) (bx + 1) wl.heap.size W ((hot.at_ hrt).below hb (Nat.le_refl _)) hb.size NL.out)
      have HX := Lib.hid (show Own (d' + 1) (setN v ([] : List ByteArray)) (.agg #[.int .i64 yk, .slice ya1 yn1 ym1, .slice ya2 yn2 ym2, .slice sn ([] : List ByteArray).length qn, .slice ya4 yn4 ym4, .slice ya5 yn5 ym5, .int .i64 yc, .int .i64 ye]) w3.heap.size wl.heap.size wl from by
        have h := HY.out.out
        cases v with
        | mk kk items parts names cls levels code env => exact Own.setN h hot hnd hrt hqn (Nat.le_succ _) (by have := S4.out; omega) (by have := (Array.getElem?_eq_some_iff.1 KX.out).1; omega))
      clear hot hnd hrt hqn TR HY
      obtain ⟨k0, k1, k2, k3, k4, k5, k6, k7⟩ := vec8 KX.out
      go_wp2_with fail
      refine (CLN.out _ (Below.refl _ _)).mono ?_
      rintro e w9 ⟨b', hor⟩
      have B9 := Lib.hid (below_then BW.out b')
      have KR := Lib.hid (blk_below b' KR.out)
      have HX := Lib.hid (HX.out.below b' (Nat.le_refl _))
      have S9 := Lib.hid b'.size
      clear b' k0 k1 k2 k3 k4 k5 k6 k7
      obtain ⟨z0, z1, z2, z3, z4, z5, z6, z7⟩ := vec8 KR.out
      obtain ⟨f0, f1, f2, f3, f4, f5, f6, f7⟩ := free8 KR.out
      rcases hor with ⟨hex, rfl⟩ | ⟨hem, g, hg, rfl⟩
      · have EN := Lib.hid (clnN_yes (l := ([] : List ByteArray)) (by obtain ⟨i, h1, h2⟩ := hex; exact ⟨i, h1, fun h => h2 (empty_of_size h)⟩))
        have XX := Lib.hid (by have h := XX.out; rw [← EQ.out, EN.out] at h; exact h)
        clear EN hex EQ
        go_wp2
        rw [XX.out.1, XX.out.2]
        exact vec_endS rfl rfl rfl rfl KR.out ⟨_, rfl, (HX.out.put8 hr3 _ _ _ _ _ _ _ _).wide L3.out (by rw [put8_size]; exact S9.out), put8_below B9.out (by omega)⟩
      · have EN := Lib.hid (clnN_no (l := ([] : List ByteArray)) (fun ⟨i, h1, h2⟩ => h2 (show (txtS _ i).size = 0 by rw [hem i h1]; rfl)))
        have XX := Lib.hid (by have h := XX.out; rw [← EQ.out, EN.out] at h; exact h)
        have HX := Lib.hid (show Own (d' + 1) (setN v []) (.agg #[.int .i64 yk, .slice ya1 yn1 ym1, .slice ya2 yn2 ym2, .slice (some ⟨g, 0, none⟩) 0 0, .slice ya4 yn4 ym4, .slice ya5 yn5 ym5, .int .i64 yc, .int .i64 ye]) w3.heap.size wl.heap.size w9 from by
          have h := HX.out
          cases v with
          | mk kk items parts names cls levels code env => exact Own.noNames h (some ⟨g, 0, none⟩) 0)
        clear EN hem hg EQ
        go_wp2
        rw [XX.out.1, XX.out.2]
        exact vec_endS rfl rfl rfl rfl KR.out ⟨_, rfl, (HX.out.put8 hr3 _ _ _ _ _ _ _ _).wide L3.out (by rw [put8_size]; exact S9.out), put8_below B9.out (by omega)⟩
    · obtain rfl : L = 0 := by omega
      obtain ⟨sn, qn, Fn, rfl, hot, hnd, hrt, hqn⟩ := txs_of_row TR.out
      have CLN := Lib.hid (fun (W : World) (hb : Below wl.heap.size wl W) => specCleanN yk yc ye ya1 ya2 sn ya4 ya5 yn1 ym1 yn2 ym2 qn yn4 ym4 yn5 ym5 ([] : List ByteArray) (bx + 1) wl.heap.size W ((hot.at_ hrt).below hb (Nat.le_refl _)) hb.size NL.out)
      have HX := Lib.hid (show Own (d' + 1) (setN v ([] : List ByteArray)) (.agg #[.int .i64 yk, .slice ya1 yn1 ym1, .slice ya2 yn2 ym2, .slice sn ([] : List ByteArray).length qn, .slice ya4 yn4 ym4, .slice ya5 yn5 ym5, .int .i64 yc, .int .i64 ye]) w3.heap.size wl.heap.size wl from by
        have h := HY.out.out
        cases v with
        | mk kk items parts names cls levels code env => exact Own.setN h hot hnd hrt hqn (Nat.le_succ _) (by have := S4.out; omega) (by have := (Array.getElem?_eq_some_iff.1 KX.out).1; omega))
      clear hot hnd hrt hqn TR HY u0 u1 u2 u3 u4 u5 u6 u7
      obtain ⟨k0, k1, k2, k3, k4, k5, k6, k7⟩ := vec8 KX.out
      go_wp2_with fail
      refine (CLN.out _ (Below.refl _ _)).mono ?_
      rintro e w9 ⟨b', hor⟩
      have B9 := Lib.hid (below_then BW.out b')
      have KR := Lib.hid (blk_below b' KR.out)
      have HX := Lib.hid (HX.out.below b' (Nat.le_refl _))
      have S9 := Lib.hid b'.size
      clear b' k0 k1 k2 k3 k4 k5 k6 k7
      obtain ⟨z0, z1, z2, z3, z4, z5, z6, z7⟩ := vec8 KR.out
      obtain ⟨f0, f1, f2, f3, f4, f5, f6, f7⟩ := free8 KR.out
      rcases hor with ⟨hex, rfl⟩ | ⟨hem, g, hg, rfl⟩
      · have EN := Lib.hid (clnN_yes (l := ([] : List ByteArray)) (by obtain ⟨i, h1, h2⟩ := hex; exact ⟨i, h1, fun h => h2 (empty_of_size h)⟩))
        have XX := Lib.hid (by have h := XX.out; rw [← EQ.out, EN.out] at h; exact h)
        clear EN hex EQ
        go_wp2
        rw [XX.out.1, XX.out.2]
        exact vec_endS rfl rfl rfl rfl KR.out ⟨_, rfl, (HX.out.put8 hr3 _ _ _ _ _ _ _ _).wide L3.out (by rw [put8_size]; exact S9.out), put8_below B9.out (by omega)⟩
      · have EN := Lib.hid (clnN_no (l := ([] : List ByteArray)) (fun ⟨i, h1, h2⟩ => h2 (show (txtS _ i).size = 0 by rw [hem i h1]; rfl)))
        have XX := Lib.hid (by have h := XX.out; rw [← EQ.out, EN.out] at h; exact h)
        have HX := Lib.hid (show Own (d' + 1) (setN v []) (.agg #[.int .i64 yk, .slice ya1 yn1 ym1, .slice ya2 yn2 ym2, .slice (some ⟨g, 0, none⟩) 0 0, .slice ya4 yn4 ym4, .slice ya5 yn5 ym5, .int .i64 yc, .int .i64 ye]) w3.heap.size wl.heap.size w9 from by
          have h := HX.out
          cases v with
          | mk kk items parts names cls levels code env => exact Own.noNames h (some ⟨g, 0, none⟩) 0)
        clear EN hem hg EQ
        go_wp2
        rw [XX.out.1, XX.out.2]
        exact vec_endS rfl rfl rfl rfl KR.out ⟨_, rfl, (HX.out.put8 hr3 _ _ _ _ _ _ _ _).wide L3.out (by rw [put8_size]; exact S9.out), put8_below B9.out (by omega)⟩
end Go.Proofs.Yteoalkjngkcheaa

/- Names that are given: the reference, as a whole. -/
namespace Go.Proofs.Yteoalkjngkcheaa
open Go.RowKit
set_option maxRecDepth 100000
set_option linter.unusedVariables false

theorem specAssignNames (d d2 : Nat) (v u : Vec) (val valu : Value) (lo hi : Nat) (w : World) (hv : VecAt lo hi w d v val) (hu : VecAt lo hi w d2 u valu) (hhi : hi ≤ w.heap.size) (hsm : Small d v) (hsu : Small d2 u) :
    Calls Try.prog 7 #[val, valu] w (ResVS d (anV v u) (anS v u) w) := by
  by_cases h : ValidV v ∧ ValidV u ∧ ¬ kindV v = 0 ∧ ¬ kindV v = 5 ∧ (kindV u = 3 ∨ kindV u = 0)
  · obtain ⟨h1, h2, h3, h4, h5 | h5⟩ := h
    · exact specAssignNames3 d d2 v u val valu lo hi w hv hu hhi hsm hsu ⟨h5, h1, h2, h3, h4⟩
    · exact specAssignNames0 d d2 v u val valu lo hi w hv hu hhi hsm hsu ⟨h5, h1, h2, h3, h4⟩
  · exact specAssignNamesX d d2 v u val valu lo hi w hv hu hhi hsm hsu h
end Go.Proofs.Yteoalkjngkcheaa
