/- The laws' own marks in whole vectors: what is written. -/
import Derived.Test.YteoalkjngkcheaaRows
import Derived.Test.YteoalkjngkcheaaVecMk2
import Derived.Test.YteoalkjngkcheaaVecMath
import Derived.WalkKit
import Derived.Lib.Hide
namespace Go.Proofs.Yteoalkjngkcheaa
set_option maxRecDepth 100000
open Go.RowKit
set_option linter.unusedVariables false

/-- How many marks a vector takes (its own kind, code and environment are not marked). -/
def cntM : Nat → Vec → Nat
  | 0, _ => 0
  | d + 1, .mk _ items parts names cls levels _ _ => 3 * items.length + sumN (fun i => cntM d (parts.getD i noV) + 3) parts.length + names.length + cls.length + levels.length
def cntP (d : Nat) (parts : List Vec) (i : Nat) : Nat := sumN (fun i => cntM d (parts.getD i noV) + 3) i
def setP (o c : Nat) : Vec → Vec
  | .mk _ it pa na cl le _ _ => .mk o it pa na cl le ((o + 1 + c : Nat) : Int) ((o + 2 + c : Nat) : Int)
def markV : Nat → Nat → Vec → Vec
  | 0, _, v => v
  | d + 1, k, .mk kk items parts names cls levels code env =>
    .mk kk (markI k items.length)
      ((List.range parts.length).map (fun i => setP (k + 3 * items.length + cntP d parts i) (cntM d (parts.getD i noV)) (markV d (k + 3 * items.length + cntP d parts i + 1) (parts.getD i noV))))
      (markS (k + 3 * items.length + cntP d parts parts.length) names.length) (markS (k + 3 * items.length + cntP d parts parts.length + names.length) cls.length) (markS (k + 3 * items.length + cntP d parts parts.length + names.length + cls.length) levels.length) code env
def markP (d k : Nat) (parts : List Vec) (i : Nat) : Vec := setP (k + cntP d parts i) (cntM d (parts.getD i noV)) (markV d (k + cntP d parts i + 1) (parts.getD i noV))
def markPs (d k : Nat) (parts : List Vec) : List Vec := (List.range parts.length).map (markP d k parts)
theorem markPs_len (d k : Nat) (parts : List Vec) : (markPs d k parts).length = parts.length := by simp [markPs]
theorem markPs_at {d k : Nat} {parts : List Vec} {i : Nat} (h : i < parts.length) : (markPs d k parts).getD i noV = markP d k parts i := by unfold markPs; simp [List.getD_eq_getElem?_getD, h]
/-- The parts of a vector in a block of their own. -/
def OwnPs (w : World) (d : Nat) (ap : Option Addr) (parts : List Vec) (Fp : List Nat) : Prop :=
  (parts = [] ∧ Fp = []) ∨ ∃ b C, ∃ Fs : List (List Nat), Fp = b :: Fs.flatten ∧ Fs.length = parts.length ∧ ap = some ⟨b, 0, none⟩ ∧ w.heap[b]? = some (.cells C 31 (0, 0)) ∧ parts.length * 8 ≤ C.size ∧
    ∀ i, i < parts.length → ∃ val, OwnVec w d (parts.getD i noV) val (Fs.getD i []) ∧ Eight C i val
theorem OwnPs.kept {w w1 : World} {d : Nat} {ap : Option Addr} {parts : List Vec} {Fp : List Nat} (h : OwnPs w d ap parts Fp) (k : ∀ b ∈ Fp, w1.heap[b]? = w.heap[b]?) : OwnPs w1 d ap parts Fp := by
  rcases h with h | ⟨b, C, Fs, rfl, hl, e, hb, hc, hp⟩
  · exact .inl h
  · refine .inr ⟨b, C, Fs, rfl, hl, e, (k b (by simp)).trans hb, hc, fun i hi => ?_⟩
    obtain ⟨val, hv, m⟩ := hp i hi
    exact ⟨val, hv.kept _ _ _ _ (fun b' hb' => k b' (List.mem_cons.2 (.inr (mem_flat (by omega) hb')))), m⟩
theorem ownVec_open {w : World} {d : Nat} {k : Int} {items : List It} {parts : List Vec} {names cls levels : List ByteArray} {code env : Int} {val : Value} {F : List Nat} (h : OwnVec w d (.mk k items parts names cls levels code env) val F) :
    ∃ d' ai ci ap cp an cn ac cc al cl Fi Fp Fn Fc Fl, d = d' + 1 ∧ val = .agg #[.int .i64 k, .slice ai items.length ci, .slice ap parts.length cp, .slice an names.length cn, .slice ac cls.length cc, .slice al levels.length cl, .int .i64 code, .int .i64 env] ∧
      F = Fi ++ (Fp ++ (Fn ++ (Fc ++ Fl))) ∧ CapsOk items.length ci parts.length cp names.length cn cls.length cc levels.length cl ∧ OwnIts w ai items Fi ∧ OwnPs w d' ap parts Fp ∧ OwnTxs w an names Fn ∧ OwnTxs w ac cls Fc ∧ OwnTxs w al levels Fl := by
  cases d with
  | zero => exact h.elim
  | succ d =>
    unfold OwnVec at h
    obtain ⟨ai, ci, ap, cp, an, cn, ac, cc, al, cl, Fi, Fp, Fn, Fc, Fl, e, eF, hC, h1, h2, h3, h4, h5⟩ := h
    exact ⟨d, ai, ci, ap, cp, an, cn, ac, cc, al, cl, Fi, Fp, Fn, Fc, Fl, rfl, e, eF, hC, h1, h5, h2, h3, h4⟩
theorem ownVec_mk {w : World} {d : Nat} {k : Int} {items : List It} {parts : List Vec} {names cls levels : List ByteArray} {code env : Int} {ai ap an ac al : Option Addr} {ci cp cn cc cl : Nat} {Fi Fp Fn Fc Fl : List Nat}
    (hC : CapsOk items.length ci parts.length cp names.length cn cls.length cc levels.length cl) (h1 : OwnIts w ai items Fi) (h2 : OwnPs w d ap parts Fp) (h3 : OwnTxs w an names Fn) (h4 : OwnTxs w ac cls Fc) (h5 : OwnTxs w al levels Fl) :
    OwnVec w (d + 1) (.mk k items parts names cls levels code env) (.agg #[.int .i64 k, .slice ai items.length ci, .slice ap parts.length cp, .slice an names.length cn, .slice ac cls.length cc, .slice al levels.length cl, .int .i64 code, .int .i64 env]) (Fi ++ (Fp ++ (Fn ++ (Fc ++ Fl)))) := by
  unfold OwnVec
  exact ⟨ai, ci, ap, cp, an, cn, ac, cc, al, cl, Fi, Fp, Fn, Fc, Fl, rfl, rfl, hC, h1, h3, h4, h5, h2⟩
theorem five_disj {A B C D E : List Nat} (nd : (A ++ (B ++ (C ++ (D ++ E)))).Nodup) :
    (∀ g ∈ A, g ∉ B ∧ g ∉ C ∧ g ∉ D ∧ g ∉ E) ∧ (∀ g ∈ B, g ∉ A ∧ g ∉ C ∧ g ∉ D ∧ g ∉ E) ∧ (∀ g ∈ C, g ∉ A ∧ g ∉ B ∧ g ∉ D ∧ g ∉ E) ∧ (∀ g ∈ D, g ∉ A ∧ g ∉ B ∧ g ∉ C ∧ g ∉ E) ∧ (∀ g ∈ E, g ∉ A ∧ g ∉ B ∧ g ∉ C ∧ g ∉ D) ∧ B.Nodup := by
  obtain ⟨nA, nd, dA⟩ := List.nodup_append.1 nd
  obtain ⟨nB, nd, dB⟩ := List.nodup_append.1 nd
  obtain ⟨nC, nd, dC⟩ := List.nodup_append.1 nd
  obtain ⟨nD, nE, dD⟩ := List.nodup_append.1 nd
  have AB : ∀ g, g ∈ A → g ∈ B → False := fun g h k => dA g h g (by simp [k]) rfl
  have AC : ∀ g, g ∈ A → g ∈ C → False := fun g h k => dA g h g (by simp [k]) rfl
  have AD : ∀ g, g ∈ A → g ∈ D → False := fun g h k => dA g h g (by simp [k]) rfl
  have AE : ∀ g, g ∈ A → g ∈ E → False := fun g h k => dA g h g (by simp [k]) rfl
  have BC : ∀ g, g ∈ B → g ∈ C → False := fun g h k => dB g h g (by simp [k]) rfl
  have BD : ∀ g, g ∈ B → g ∈ D → False := fun g h k => dB g h g (by simp [k]) rfl
  have BE : ∀ g, g ∈ B → g ∈ E → False := fun g h k => dB g h g (by simp [k]) rfl
  have CD : ∀ g, g ∈ C → g ∈ D → False := fun g h k => dC g h g (by simp [k]) rfl
  have CE : ∀ g, g ∈ C → g ∈ E → False := fun g h k => dC g h g (by simp [k]) rfl
  have DE : ∀ g, g ∈ D → g ∈ E → False := fun g h k => dD g h g k rfl
  exact ⟨fun g h => ⟨AB g h, AC g h, AD g h, AE g h⟩, fun g h => ⟨fun k => AB g k h, BC g h, BD g h, BE g h⟩, fun g h => ⟨fun k => AC g k h, fun k => BC g k h, CD g h, CE g h⟩, fun g h => ⟨fun k => AD g k h, fun k => BD g k h, fun k => CD g k h, DE g h⟩, fun g h => ⟨fun k => AE g k h, fun k => BE g k h, fun k => CE g k h, fun k => DE g k h⟩, nB⟩
/-- The contract of markVectorS at depth d. -/
structure MPOk (d : Nat) : Prop where
  out : ∀ (parts : List Vec) (ap : Option Addr) (cp k : Nat) (Fp : List Nat) (w : World), OwnPs w d ap parts Fp → Fp.Nodup → (∀ b ∈ Fp, b < w.heap.size) → parts.length ≤ 1048576 → (∀ i, i < parts.length → Small d (parts.getD i noV)) → 1 ≤ k → k + cntP d parts parts.length ≤ 8000000 →
    Calls Try.prog 39 #[.slice ap parts.length cp, .int .i64 k] w fun e w' => e = .returned (.int .i64 ((k : Int) + (cntP d parts parts.length : Int))) ∧ OwnPs w' d ap (markPs d k parts) Fp ∧ Touch Fp w w'
/-- The five slices of a vector, marked one after the other. -/
theorem five_done {d : Nat} {W1 W2 W3 W4 W5 W6 : World} {ai ap an ac al : Option Addr} {items' : List It} {parts' : List Vec} {names' cls' levels' : List ByteArray} {Fi Fp Fn Fc Fl : List Nat}
    (nd : (Fi ++ (Fp ++ (Fn ++ (Fc ++ Fl)))).Nodup) (lt : ∀ b ∈ Fi ++ (Fp ++ (Fn ++ (Fc ++ Fl))), b < W1.heap.size)
    (T1 : Touch Fi W1 W2) (T2 : Touch Fp W2 W3) (T3 : Touch Fn W3 W4) (T4 : Touch Fc W4 W5) (T5 : Touch Fl W5 W6)
    (R1 : OwnIts W2 ai items' Fi) (R2 : OwnPs W3 d ap parts' Fp) (R3 : OwnTxs W4 an names' Fn) (R4 : OwnTxs W5 ac cls' Fc) (R5 : OwnTxs W6 al levels' Fl) :
    OwnIts W6 ai items' Fi ∧ OwnPs W6 d ap parts' Fp ∧ OwnTxs W6 an names' Fn ∧ OwnTxs W6 ac cls' Fc ∧ OwnTxs W6 al levels' Fl ∧ Touch (Fi ++ (Fp ++ (Fn ++ (Fc ++ Fl)))) W1 W6 := by
  obtain ⟨d1, d2, d3, d4, d5, _⟩ := five_disj nd
  have s1 := T1.size
  have s2 := T2.size
  have s3 := T3.size
  have s4 := T4.size
  refine ⟨R1.kept fun g hg => ?_, R2.kept fun g hg => ?_, R3.kept fun g hg => ?_, R4.kept fun g hg => ?_, R5, ?_⟩
  · have hl := lt g (by simp [hg])
    have hd := d1 g hg
    exact (T5.block g (by omega) hd.2.2.2).trans ((T4.block g (by omega) hd.2.2.1).trans ((T3.block g (by omega) hd.2.1).trans (T2.block g (by omega) hd.1)))
  · have hl := lt g (by simp [hg])
    have hd := d2 g hg
    exact (T5.block g (by omega) hd.2.2.2).trans ((T4.block g (by omega) hd.2.2.1).trans (T3.block g (by omega) hd.2.1))
  · have hl := lt g (by simp [hg])
    have hd := d3 g hg
    exact (T5.block g (by omega) hd.2.2.2).trans (T4.block g (by omega) hd.2.2.1)
  · have hl := lt g (by simp [hg])
    have hd := d4 g hg
    exact T5.block g (by omega) hd.2.2.2
  · exact ((((T1.mono (fun b hb => by simp [hb])).trans (T2.mono (fun b hb => by simp [hb]))).trans (T3.mono (fun b hb => by simp [hb]))).trans (T4.mono (fun b hb => by simp [hb]))).trans (T5.mono (fun b hb => by simp [hb]))
theorem cntM_eq (d : Nat) (k : Int) (items : List It) (parts : List Vec) (names cls levels : List ByteArray) (code env : Int) :
    cntM (d + 1) (.mk k items parts names cls levels code env) = 3 * items.length + cntP d parts parts.length + names.length + cls.length + levels.length := rfl
theorem markV_eq (d k : Nat) (kk : Int) (items : List It) (parts : List Vec) (names cls levels : List ByteArray) (code env : Int) :
    markV (d + 1) k (.mk kk items parts names cls levels code env) = .mk kk (markI k items.length) (markPs d (k + 3 * items.length) parts) (markS (k + 3 * items.length + cntP d parts parts.length) names.length) (markS (k + 3 * items.length + cntP d parts parts.length + names.length) cls.length) (markS (k + 3 * items.length + cntP d parts parts.length + names.length + cls.length) levels.length) code env := rfl
set_option maxHeartbeats 4000000 in
/-- markVector, over the contract of markVectorS. -/
theorem markVec_of (d : Nat) (MP : MPOk d) (v : Vec) (y : Value) (k : Nat) (F : List Nat) (w : World) (hv : OwnVec w (d + 1) v y F) (nd : F.Nodup) (lt : ∀ b ∈ F, b < w.heap.size) (hsm : Small (d + 1) v) (h1 : 1 ≤ k) (hk : k + cntM (d + 1) v ≤ 8000000) :
    Calls Try.prog 11 #[y, .int .i64 k] w fun e w' => e = .returned (.int .i64 ((k + cntM (d + 1) v : Nat) : Int)) ∧ OwnVec w' (d + 1) (markV (d + 1) k v) y F ∧ Touch F w w' := by
  obtain ⟨kk, items, parts, names, cls, levels, code, env⟩ := v
  obtain ⟨d', ai, ci, ap, cp, an, cn, ac, cc, al, cl, Fi, Fp, Fn, Fc, Fl, ed, rfl, rfl, hC, O1, O2, O3, O4, O5⟩ := ownVec_open hv
  obtain rfl : d = d' := by omega
  have hsp : ∀ i, i < parts.length → Small d (parts.getD i noV) := fun i hi => hsm.part hi
  obtain ⟨li, lp, ln, lc, ll, _⟩ := hsm
  rw [cntM_eq] at hk ⊢
  rw [markV_eq]
  obtain ⟨d1, d2, d3, d4, d5, ndP⟩ := five_disj nd
  obtain ⟨ni, hni⟩ : ∃ x, items.length = x := ⟨_, rfl⟩
  obtain ⟨np, hnp⟩ : ∃ x, parts.length = x := ⟨_, rfl⟩
  obtain ⟨nn, hnn⟩ : ∃ x, names.length = x := ⟨_, rfl⟩
  obtain ⟨nc, hnc⟩ : ∃ x, cls.length = x := ⟨_, rfl⟩
  obtain ⟨nl, hnl⟩ : ∃ x, levels.length = x := ⟨_, rfl⟩
  obtain ⟨cP, hcP⟩ : ∃ x, cntP d parts parts.length = x := ⟨_, rfl⟩
  have MI := Lib.hid (fun (W : World) (h : OwnIts W ai items Fi) => markIts items ai ci k Fi W h li h1 (by omega))
  have MPs := Lib.hid (fun (W : World) (h : OwnPs W d ap parts Fp) (hl : ∀ b ∈ Fp, b < W.heap.size) => (show Calls Try.prog 39 #[.slice ap parts.length cp, .int .i64 ((k : Int) + 3 * (items.length : Int))] W (fun e w' => e = .returned (.int .i64 ((k : Int) + 3 * (items.length : Int) + (cntP d parts parts.length : Int))) ∧ OwnPs w' d ap (markPs d (k + 3 * items.length) parts) Fp ∧ Touch Fp W w') from by
    have h := MP.out parts ap cp (k + 3 * items.length) Fp W h ndP hl lp hsp (by omega) (by omega)
    have e : ((k + 3 * items.length : Nat) : Int) = (k : Int) + 3 * (items.length : Int) := by omega
    rw [e] at h; exact h))
  have MTx : ∀ (l : List ByteArray) (a : Option Addr) (c o : Nat) (x : Int) (G : List Nat), l.length ≤ 1048576 → 1 ≤ o → o + l.length ≤ 9000000 → (o : Int) = x → ∀ (W : World), OwnTxs W a l G →
      Calls Try.prog 40 #[.slice a l.length c, .int .i64 x] W fun e w' => e = .returned (.int .i64 (x + (l.length : Int))) ∧ OwnTxs w' a (markS o l.length) G ∧ Touch G W w' := by
    intro l a c o x G g1 g2 g3 g4 W h
    subst g4
    exact markTxs l a c o G W h g1 g2 g3
  have MN := Lib.hid (MTx names an cn (k + 3 * items.length + cntP d parts parts.length) ((k : Int) + 3 * (items.length : Int) + (cntP d parts parts.length : Int)) Fn ln (by omega) (by omega) (by omega))
  have MC := Lib.hid (MTx cls ac cc (k + 3 * items.length + cntP d parts parts.length + names.length) ((k : Int) + 3 * (items.length : Int) + (cntP d parts parts.length : Int) + (names.length : Int)) Fc lc (by omega) (by omega) (by omega))
  have ML := Lib.hid (MTx levels al cl (k + 3 * items.length + cntP d parts parts.length + names.length + cls.length) ((k : Int) + 3 * (items.length : Int) + (cntP d parts parts.length : Int) + (names.length : Int) + (cls.length : Int)) Fl ll (by omega) (by omega) (by omega))
  have P1 := Lib.hid O1
  have P2 := Lib.hid O2
  have P3 := Lib.hid O3
  have P4 := Lib.hid O4
  have P5 := Lib.hid O5
  have CK := Lib.hid hC
  have ND := Lib.hid nd
  have LT := Lib.hid lt
  have D1 := Lib.hid d1
  have D2 := Lib.hid d2
  have D3 := Lib.hid d3
  have D4 := Lib.hid d4
  have D5 := Lib.hid d5
  clear hv O1 O2 O3 O4 O5 hC nd lt d1 d2 d3 d4 d5 ndP hsp MTx MP
  rw [hcP] at MPs MN MC ML hk ⊢
  rw [hni] at MI MPs MN MC ML CK hk ⊢
  rw [hnp] at MPs CK ⊢
  rw [hnn] at MN MC ML CK hk ⊢
  rw [hnc] at MC ML CK hk ⊢
  rw [hnl] at ML CK hk ⊢
  have EP := Lib.hid hnp
  clear hni hnp hnn hnc hnl hcP li lp ln lc ll
  have b1 : (0 : Int) ≤ (k : Int) + 3 * (ni : Int) := by omega
  go_enter Try.func11, Try.ntmps11
  go_wp2_with fail
  obtain ⟨W1, hW1⟩ : ∃ W, w.alloc (.cells #[.int .i64 kk, .slice ai ni ci, .slice ap np cp, .slice an nn cn, .slice ac nc cc, .slice al nl cl, .int .i64 code, .int .i64 env] 31) = W := ⟨_, rfl⟩
  have T0 := Lib.hid (show Below w.heap.size w W1 from hW1 ▸ below1 w _)
  have K0 := Lib.hid (show W1.heap[w.heap.size]? = some (.cells #[.int .i64 kk, .slice ai ni ci, .slice ap np cp, .slice an nn cn, .slice ac nc cc, .slice al nl cl, .int .i64 code, .int .i64 env] 31 (0, 0)) from hW1 ▸ blk_new w _ rfl)
  rw [hW1]
  clear hW1
  have Q1 := Lib.hid (P1.out.kept (fun g hg => T0.out.block g (LT.out g (by simp [hg]))))
  have Q2 := Lib.hid (P2.out.kept (fun g hg => T0.out.block g (LT.out g (by simp [hg]))))
  have Q3 := Lib.hid (P3.out.kept (fun g hg => T0.out.block g (LT.out g (by simp [hg]))))
  have Q4 := Lib.hid (P4.out.kept (fun g hg => T0.out.block g (LT.out g (by simp [hg]))))
  have Q5 := Lib.hid (P5.out.kept (fun g hg => T0.out.block g (LT.out g (by simp [hg]))))
  have L1 := Lib.hid (show ∀ b ∈ Fi ++ (Fp ++ (Fn ++ (Fc ++ Fl))), b < W1.heap.size from fun b hb => Nat.lt_of_lt_of_le (LT.out b hb) T0.out.size)
  have N1 := Lib.hid (show w.heap.size ∉ Fi ++ (Fp ++ (Fn ++ (Fc ++ Fl))) from fun h => by have := LT.out _ h; omega)
  have Z0 := Lib.hid (Array.getElem?_eq_some_iff.1 K0.out).1
  with_reducible refine (MI.out _ Q1.out).mono ?_
  rintro e w2 ⟨rfl, R1, T1⟩
  have U1 := Lib.hid T1
  have S1 := Lib.hid R1
  clear T1 R1
  have K1 := Lib.hid ((U1.out.block _ Z0.out (fun h => N1.out (by simp [h]))).trans K0.out)
  have Z1 := Lib.hid (Nat.lt_of_lt_of_le Z0.out U1.out.size)
  obtain ⟨k0, k1, k2, k3, k4, k5, k6, k7⟩ := vec8 K1.out
  go_wp2_with fail
  with_reducible refine (MPs.out _ (Q2.out.kept (fun g hg => U1.out.block g (L1.out g (by simp [hg])) (D2.out g hg).1)) (fun b hb => Nat.lt_of_lt_of_le (L1.out b (by simp [hb])) U1.out.size)).mono ?_
  rintro e w3 ⟨rfl, R2, T2⟩
  have U2 := Lib.hid T2
  have S2 := Lib.hid R2
  clear T2 R2 k0 k1 k2 k3 k4 k5 k6 k7
  have K2 := Lib.hid ((U2.out.block _ Z1.out (fun h => N1.out (by simp [h]))).trans K1.out)
  have Z2 := Lib.hid (Nat.lt_of_lt_of_le Z1.out U2.out.size)
  have L2 := Lib.hid (fun b hb => Nat.lt_of_lt_of_le (L1.out b hb) U1.out.size)
  have L3 := Lib.hid (fun b hb => Nat.lt_of_lt_of_le (L2.out b hb) U2.out.size)
  obtain ⟨k0, k1, k2, k3, k4, k5, k6, k7⟩ := vec8 K2.out
  go_wp2_with fail
  with_reducible refine (MN.out _ (Q3.out.kept (fun g hg => (U2.out.block g (L2.out g (by simp [hg])) (D3.out g hg).2.1).trans (U1.out.block g (L1.out g (by simp [hg])) (D3.out g hg).1)))).mono ?_
  rintro e w4 ⟨rfl, R3, T3⟩
  have U3 := Lib.hid T3
  have S3 := Lib.hid R3
  clear T3 R3 k0 k1 k2 k3 k4 k5 k6 k7
  have K3 := Lib.hid ((U3.out.block _ Z2.out (fun h => N1.out (by simp [h]))).trans K2.out)
  have Z3 := Lib.hid (Nat.lt_of_lt_of_le Z2.out U3.out.size)
  have L4 := Lib.hid (fun b hb => Nat.lt_of_lt_of_le (L3.out b hb) U3.out.size)
  obtain ⟨k0, k1, k2, k3, k4, k5, k6, k7⟩ := vec8 K3.out
  go_wp2_with fail
  with_reducible refine (MC.out _ (Q4.out.kept (fun g hg => (U3.out.block g (L3.out g (by simp [hg])) (D4.out g hg).2.2.1).trans ((U2.out.block g (L2.out g (by simp [hg])) (D4.out g hg).2.1).trans (U1.out.block g (L1.out g (by simp [hg])) (D4.out g hg).1))))).mono ?_
  rintro e w5 ⟨rfl, R4, T4⟩
  have U4 := Lib.hid T4
  have S4 := Lib.hid R4
  clear T4 R4 k0 k1 k2 k3 k4 k5 k6 k7
  have K4 := Lib.hid ((U4.out.block _ Z3.out (fun h => N1.out (by simp [h]))).trans K3.out)
  obtain ⟨k0, k1, k2, k3, k4, k5, k6, k7⟩ := vec8 K4.out
  go_wp2_with fail
  with_reducible refine (ML.out _ (Q5.out.kept (fun g hg => (U4.out.block g (L4.out g (by simp [hg])) (D5.out g hg).2.2.2).trans ((U3.out.block g (L3.out g (by simp [hg])) (D5.out g hg).2.2.1).trans ((U2.out.block g (L2.out g (by simp [hg])) (D5.out g hg).2.1).trans (U1.out.block g (L1.out g (by simp [hg])) (D5.out g hg).1)))))).mono ?_
  rintro e w6 ⟨rfl, R5, T5⟩
  have DONE := Lib.hid (five_done ND.out L1.out U1.out U2.out U3.out U4.out T5 S1.out S2.out S3.out S4.out R5)
  clear T5 R5 k0 k1 k2 k3 k4 k5 k6 k7
  have OV := Lib.hid (by
    obtain ⟨r1, r2, r3, r4, r5, _⟩ := DONE.out
    have h := ownVec_mk (k := kk) (code := code) (env := env) (ci := ci) (cp := cp) (cn := cn) (cc := cc) (cl := cl) (by rw [markI_len, markPs_len, EP.out, markS_len, markS_len, markS_len]; exact CK.out) r1 r2 r3 r4 r5
    rw [markI_len, markPs_len, EP.out, markS_len, markS_len, markS_len] at h
    exact h)
  have TT := Lib.hid ((Touch.of_below T0.out).trans DONE.out.2.2.2.2.2)
  go_wp2
  go_ret
  exact ⟨ret_i64S (by omega), OV.out, TT.out⟩
end Go.Proofs.Yteoalkjngkcheaa
