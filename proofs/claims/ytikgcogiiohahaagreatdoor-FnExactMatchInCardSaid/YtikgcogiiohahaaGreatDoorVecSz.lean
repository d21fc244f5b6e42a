/- The laws' own size test of a vector. -/
import Derived.Test.YtikgcogiiohahaaGreatDoorRows
import Derived.Test.YtikgcogiiohahaaGreatDoorVec
import Derived.Test.YtikgcogiiohahaaGreatDoorItems
import Derived.Test.YtikgcogiiohahaaGreatDoorStrs
import Derived.WalkKit
import Derived.Lib.Hide
namespace Go.Proofs.YtikgcogiiohahaaGreatDoor
open Go.RowKit
set_option maxRecDepth 100000
set_option linter.unusedVariables false

def noV : Vec := .mk 0 [] [] [] [] [] 0 0
theorem vec8 {w : World} {b : Nat} {v0 v1 v2 v3 v4 v5 v6 v7 : Value} {t : TypeId} (h : w.heap[b]? = some (.cells #[v0, v1, v2, v3, v4, v5, v6, v7] t (0, 0))) :
    w.cell? ⟨b, 0, none⟩ = some v0 ∧ w.cell? ⟨b, 1, none⟩ = some v1 ∧ w.cell? ⟨b, 2, none⟩ = some v2 ∧ w.cell? ⟨b, 3, none⟩ = some v3 ∧ w.cell? ⟨b, 4, none⟩ = some v4 ∧ w.cell? ⟨b, 5, none⟩ = some v5 ∧ w.cell? ⟨b, 6, none⟩ = some v6 ∧ w.cell? ⟨b, 7, none⟩ = some v7 :=
  ⟨cellOf h rfl, cellOf h rfl, cellOf h rfl, cellOf h rfl, cellOf h rfl, cellOf h rfl, cellOf h rfl, cellOf h rfl⟩
theorem VecsAt.at_ {lo hi : Nat} {w : World} {d : Nat} {a : Option Addr} {l : List Vec} (h : VecsAt lo hi w d a l) {k : Nat} (hk : k < l.length) :
    ∃ b off c0 c1 c2 c3 c4 c5 c6 c7, a = some ⟨b, off, none⟩ ∧ b < hi ∧ VecAt lo hi w d (l.getD k noV) (.agg #[c0, c1, c2, c3, c4, c5, c6, c7]) ∧
      w.cell? ⟨b, off + k * 8, none⟩ = some c0 ∧ w.cell? ⟨b, off + k * 8 + 1, none⟩ = some c1 ∧ w.cell? ⟨b, off + k * 8 + 2, none⟩ = some c2 ∧ w.cell? ⟨b, off + k * 8 + 3, none⟩ = some c3 ∧ w.cell? ⟨b, off + k * 8 + 4, none⟩ = some c4 ∧ w.cell? ⟨b, off + k * 8 + 5, none⟩ = some c5 ∧ w.cell? ⟨b, off + k * 8 + 6, none⟩ = some c6 ∧ w.cell? ⟨b, off + k * 8 + 7, none⟩ = some c7 := by
  obtain ⟨b, off, c0, c1, c2, c3, c4, c5, c6, c7, e, _, h1, hv, m⟩ := h k l[k] (List.getElem?_eq_getElem hk)
  have e1 : l.getD k noV = l[k] := by simp [List.getD_eq_getElem?_getD, List.getElem?_eq_getElem hk]
  exact ⟨b, off, c0, c1, c2, c3, c4, c5, c6, c7, e, h1, by rw [e1]; exact hv, m⟩
theorem VecsAt.below {lo hi B : Nat} {w w1 : World} {d : Nat} {a : Option Addr} {l : List Vec} (h : VecsAt lo hi w d a l) (hb : Below B w w1) (hB : hi ≤ B) : VecsAt lo hi w1 d a l := h.kept (Kept.of_below hb hB)
theorem TextsAt.below {lo hi B : Nat} {w w1 : World} {a : Option Addr} {l : List ByteArray} (h : TextsAt lo hi w a l) (hb : Below B w w1) (hB : hi ≤ B) : TextsAt lo hi w1 a l := h.kept (Kept.of_below hb hB)
theorem VecAt.below {lo hi B : Nat} {w w1 : World} {d : Nat} {v : Vec} {val : Value} (h : VecAt lo hi w d v val) (hb : Below B w w1) (hB : hi ≤ B) : VecAt lo hi w1 d v val := h.kept (Kept.of_below hb hB)
theorem Fits.part {d : Nat} {k : Int} {items : List It} {parts : List Vec} {names cls levels : List ByteArray} {code env : Int} (h : Fits (d + 1) (.mk k items parts names cls levels code env)) {i : Nat} (hi : i < parts.length) : Fits d (parts.getD i noV) := by
  obtain ⟨_, _, _, _, _, _, _, _, _, _, _, _, h⟩ := h
  refine h _ ?_
  rw [List.getD_eq_getElem?_getD, List.getElem?_eq_getElem hi]
  exact List.getElem_mem hi

def sumN (g : Nat → Nat) : Nat → Nat
  | 0 => 0
  | n + 1 => sumN g n + g n
theorem sumN_mono (f : Nat → Nat) {k n : Nat} (h : k ≤ n) : sumN f k ≤ sumN f n := by
  induction n with
  | zero => have : k = 0 := by omega
            subst this; exact Nat.le_refl _
  | succ n ih =>
    by_cases e : k = n + 1
    · subst e; exact Nat.le_refl _
    · have := ih (by omega); simp only [sumN]; omega
theorem sumN_at (f : Nat → Nat) {k n : Nat} (h : k < n) : sumN f k + f k ≤ sumN f n := by
  have := sumN_mono f (show k + 1 ≤ n by omega)
  simpa only [sumN] using this
def txtS (l : List ByteArray) (i : Nat) : ByteArray := l.getD i ByteArray.empty
def wI (l : List It) : Nat := l.length + sumF (txtI l) l.length
def wS (l : List ByteArray) : Nat := l.length + sumF (txtS l) l.length
/-- How much a vector weighs in the laws' size test. -/
def wV : Nat → Vec → Nat
  | 0, _ => 0
  | d + 1, .mk _ items parts names cls levels _ _ => wI items + (parts.length + sumN (fun i => wV d (parts.getD i noV)) parts.length) + wS names + wS cls + wS levels
def szL (left : Int) (x : Nat) : Int := if (x : Int) ≤ left then left - x else -1
theorem szR_L (left : Int) (n : Nat) (f : Nat → ByteArray) : szR left n f = szL left (n + sumF f n) := by
  unfold szR szL
  by_cases h : (n : Int) + sumF f n ≤ left
  · rw [if_pos h, if_pos (by omega)]; omega
  · rw [if_neg h, if_neg (by omega)]
theorem szL_no {left : Int} {x : Nat} (h : left < x) : szL left x = -1 := by unfold szL; rw [if_neg (by omega)]
theorem szL_yes {left : Int} {x : Nat} (h : (x : Int) ≤ left) : szL left x = left - x := by unfold szL; rw [if_pos h]
theorem szI_no {l : List It} {left : Int} (h : left < (wI l : Int)) : szR left l.length (txtI l) = -1 := by rw [szR_L]; exact szL_no h
theorem szI_yes {l : List It} {left : Int} (h : (wI l : Int) ≤ left) : szR left l.length (txtI l) = left - wI l := by rw [szR_L]; exact szL_yes h
theorem szS_no {l : List ByteArray} {left : Int} (h : left < (wS l : Int)) : szR left l.length (txtS l) = -1 := by rw [szR_L]; exact szL_no h
theorem szS_yes {l : List ByteArray} {left : Int} (h : (wS l : Int) ≤ left) : szR left l.length (txtS l) = left - wS l := by rw [szR_L]; exact szL_yes h

/-- The contract of szVector at depth d. -/
structure SzOk (d : Nat) : Prop where
  out : ∀ (v : Vec) (val : Value) (left : Int) (lo hi : Nat) (w : World), VecAt lo hi w d v val → hi ≤ w.heap.size → Fits d v → 0 ≤ left → left ≤ 1048576 →
    Calls Tryz.prog 4 #[val, .int .i64 left] w fun e w' => e = .returned (.int .i64 (szL left (wV d v))) ∧ Below w.heap.size w w'

set_option maxHeartbeats 2000000 in
theorem szParts (d : Nat) (IH : SzOk d) (parts : List Vec) (a : Option Addr) (cap : Nat) (left : Int) (lo hi : Nat) (w : World) (hs : VecsAt lo hi w d a parts) (hhi : hi ≤ w.heap.size) (hf : ∀ i, i < parts.length → Fits d (parts.getD i noV)) (hn : parts.length ≤ 9223372036854775807) (h0 : 0 ≤ left) (h1 : left ≤ 1048576) :
    Calls Tryz.prog 12 #[.slice a parts.length cap, .int .i64 left] w fun e w' => e = .returned (.int .i64 (szL left (parts.length + sumN (fun i => wV d (parts.getD i noV)) parts.length))) ∧ Below w.heap.size w w' := by
  have A := Lib.hid (fun (k : Nat) (w1 : World) (hk : k < parts.length) (hb : Below w.heap.size w w1) => (hs.below hb hhi).at_ hk)
  have C := Lib.hid (fun (k : Nat) (w1 : World) (val : Value) (l : Int) (hk : k < parts.length) (hb : Below w.heap.size w w1) (hv : VecAt lo hi w1 d (parts.getD k noV) val) (l0 : 0 ≤ l) (l1 : l ≤ 1048576) => IH.out _ val l lo hi w1 hv (Nat.le_trans hhi hb.size) (hf k hk) l0 l1)
  obtain ⟨f, hff⟩ : ∃ f, (fun i => wV d (parts.getD i noV)) = f := ⟨_, rfl⟩
  have hfk : ∀ k, wV d (parts.getD k noV) = f k := fun k => by rw [← hff]
  rw [hff]
  simp only [hfk] at C
  clear hs hf hff hfk IH
  obtain ⟨n, hn'⟩ : ∃ n, parts.length = n := ⟨_, rfl⟩
  rw [hn'] at hn A C ⊢
  clear hn'
  by_cases hl : left < n
  · have X := Lib.hid (show szL left (n + sumN f n) = -1 from szL_no (by omega))
    go_enter Tryz.func12, Tryz.ntmps12
    go_wp2
    go_ret
    exact ⟨ret_i64S X.out.symm, Below.refl _ _⟩
  · go_enter Tryz.func12, Tryz.ntmps12
    go_wp2
    go_loopw [1, 5] (fun v i wr => ∃ k : Nat, k ≤ n ∧ i = .int .i64 k ∧ (n : Int) + sumN f k ≤ left ∧ v = .int .i64 (left - n - sumN f k) ∧ Below w.heap.size w wr) (fun _ i _ => n - (intOf i).toNat)
    case atStart => exact ⟨0, Nat.zero_le _, rfl, by simp [sumN]; omega, by simp [sumN], Below.refl _ _⟩
    case round =>
      obtain ⟨k, hk, rfl, hle, rfl, hb⟩ := hrel
      have BB := Lib.hid hb
      clear hb
      by_cases hlt : k < n
      · obtain ⟨b, off, u0, u1, u2, u3, u4, u5, u6, u7, rfl, hbB, hv, c0, c1, c2, c3, c4, c5, c6, c7⟩ := A.out _ _ hlt BB.out
        have HV := Lib.hid hv
        clear hv
        go_wp2_with fail
        refine (C.out _ _ _ _ hlt BB.out HV.out (by omega) (by omega)).mono ?_
        rintro e w1 ⟨rfl, b1⟩
        have B1 := Lib.hid (BB.out.trans (b1.mono BB.out.size))
        clear b1
        by_cases hbig : left < (n : Int) + sumN f k + f k
        · have X := Lib.hid (show szL left (n + sumN f n) = -1 from szL_no (by have := sumN_at f hlt; omega))
          rw [szL_no (show left - n - sumN f k < f k by omega)]
          go_wp2
          go_ret
          exact ⟨ret_i64S X.out.symm, B1.out⟩
        · rw [szL_yes (show (f k : Int) ≤ left - n - sumN f k by omega)]
          go_wp2
          go_roundw
          case rel => exact ⟨k + 1, by omega, by go_num, by simp only [sumN]; omega, by simp only [sumN]; congr 1; omega, B1.out⟩
          case measure => simp [intOf]; omega
      · obtain rfl : k = n := by omega
        have X := Lib.hid (show szL left (k + sumN f k) = left - k - sumN f k by rw [szL_yes (by omega)]; omega)
        go_wp2
        go_ret
        exact ⟨ret_i64S X.out.symm, BB.out⟩

set_option maxHeartbeats 4000000 in
theorem szStep (d : Nat) (IH : SzOk d) : SzOk (d + 1) := by
  refine ⟨fun v val left lo hi w hv hhi hf h0 h1 => ?_⟩
  obtain ⟨kk, items, parts, names, cls, levels, code, env⟩ := v
  obtain ⟨d', ai, ci, ap, cp, an, cn, ac, cc, al, cl, ed, rfl, hI, hN, hC, hL, hP⟩ := vecAt_open hv
  obtain rfl : d = d' := by omega
  have hfp := fun {i : Nat} (hi : i < parts.length) => hf.part hi
  obtain ⟨_, _, _, li, lp, ln, lc, ll, bi, bn, bc, bl, _⟩ := hf
  unfold maxLen at li lp ln lc ll bi bn bc bl
  have CI := Lib.hid (fun (w1 : World) (left : Int) (hb : Below w.heap.size w w1) (l0 : 0 ≤ left) (l1 : left ≤ 1048576) => szItems items ai ci left lo hi w1 (hI.below hb hhi) (Nat.le_trans hhi hb.size) (by omega) l0 l1 (fun i hi => by unfold txtI; rw [List.getD_eq_getElem?_getD, List.getElem?_eq_getElem hi]; exact Nat.le_trans (bi _ (List.getElem_mem hi)).2.2 (by omega)))
  have CP := Lib.hid (fun (w1 : World) (left : Int) (hb : Below w.heap.size w w1) (l0 : 0 ≤ left) (l1 : left ≤ 1048576) => szParts d IH parts ap cp left lo hi w1 (hP.below hb hhi) (Nat.le_trans hhi hb.size) (fun i hi => hfp hi) (by omega) l0 l1)
  have TS : ∀ (l : List ByteArray) (a : Option Addr) (cap : Nat), TextsAt lo hi w a l → l.length ≤ 2 ^ 63 - 1 → (∀ s ∈ l, s.size ≤ 2 ^ 63 - 1) → ∀ (w1 : World) (left : Int), Below w.heap.size w w1 → 0 ≤ left → left ≤ 1048576 →
      Calls Tryz.prog 13 #[.slice a l.length cap, .int .i64 left] w1 fun e w' => e = .returned (.int .i64 (szR left l.length (txtS l))) ∧ w1 = w' := by
    intro l a cap ht hlen hz w1 left hb l0 l1
    exact szStrs a l.length cap left (txtS l) hi w1 (ht.below hb hhi).strs (by omega) l0 l1 (fun i hi => by unfold txtS; rw [List.getD_eq_getElem?_getD, List.getElem?_eq_getElem hi]; exact Nat.le_trans (hz _ (List.getElem_mem hi)) (by omega))
  have CN := Lib.hid (TS names an cn hN ln bn)
  have CC := Lib.hid (TS cls ac cc hC lc bc)
  have CL := Lib.hid (TS levels al cl hL ll bl)
  obtain ⟨p, hp⟩ : ∃ p, parts.length + sumN (fun i => wV d (parts.getD i noV)) parts.length = p := ⟨_, rfl⟩
  have W : wV (d + 1) (.mk kk items parts names cls levels code env) = wI items + p + wS names + wS cls + wS levels := by rw [← hp]; rfl
  rw [hp] at CP
  rw [W]
  have YI := Lib.hid (fun (left : Int) (h : (wI items : Int) ≤ left) => szI_yes (l := items) h)
  have NI := Lib.hid (fun (left : Int) (h : left < (wI items : Int)) => szI_no (l := items) h)
  have YN := Lib.hid (fun (left : Int) (h : (wS names : Int) ≤ left) => szS_yes (l := names) h)
  have NN := Lib.hid (fun (left : Int) (h : left < (wS names : Int)) => szS_no (l := names) h)
  have YC := Lib.hid (fun (left : Int) (h : (wS cls : Int) ≤ left) => szS_yes (l := cls) h)
  have NC := Lib.hid (fun (left : Int) (h : left < (wS cls : Int)) => szS_no (l := cls) h)
  have YL := Lib.hid (fun (left : Int) (h : (wS levels : Int) ≤ left) => szS_yes (l := levels) h)
  have NL := Lib.hid (fun (left : Int) (h : left < (wS levels : Int)) => szS_no (l := levels) h)
  generalize wI items = xi at *
  generalize wS names = xn at *
  generalize wS cls = xc at *
  generalize wS levels = xl at *
  clear hv hI hN hC hL hP hfp TS W hp ed li lp ln lc ll bi bn bc bl IH
  go_enter Tryz.func4, Tryz.ntmps4
  go_wp2_with fail
  refine (CI.out _ left (below1 _ _) h0 h1).mono ?_
  rintro e w2 ⟨rfl, b2⟩
  have B2 := Lib.hid (below_then (below1 w _) b2)
  have K2 := Lib.hid (blk_below b2 (blk_new w _ rfl))
  clear b2
  by_cases g1 : left < (xi : Int)
  · have X := Lib.hid (show szL left (xi + p + xn + xc + xl) = -1 from szL_no (by omega))
    rw [NI.out _ g1]
    go_wp2
    go_ret
    exact ⟨ret_i64S X.out.symm, B2.out⟩
  rw [YI.out _ (by omega)]
  obtain ⟨k0, k1, k2, k3, k4, k5, k6, k7⟩ := vec8 K2.out
  go_wp2_with fail
  refine (CP.out _ _ B2.out (by omega) (by omega)).mono ?_
  rintro e w3 ⟨rfl, b3⟩
  have B3 := Lib.hid (below_then B2.out b3)
  have K3 := Lib.hid (blk_below b3 K2.out)
  clear b3 k0 k1 k2 k3 k4 k5 k6 k7
  by_cases g2 : left - xi < (p : Int)
  · have X := Lib.hid (show szL left (xi + p + xn + xc + xl) = -1 from szL_no (by omega))
    rw [szL_no g2]
    go_wp2
    go_ret
    exact ⟨ret_i64S X.out.symm, B3.out⟩
  rw [szL_yes (show (p : Int) ≤ left - xi by omega)]
  obtain ⟨k0, k1, k2, k3, k4, k5, k6, k7⟩ := vec8 K3.out
  go_wp2_with fail
  refine (CN.out _ _ B3.out (by omega) (by omega)).mono ?_
  rintro e w' ⟨rfl, rfl⟩
  by_cases g3 : left - xi - p < (xn : Int)
  · have X := Lib.hid (show szL left (xi + p + xn + xc + xl) = -1 from szL_no (by omega))
    rw [NN.out _ g3]
    go_wp2
    go_ret
    exact ⟨ret_i64S X.out.symm, B3.out⟩
  rw [YN.out _ (by omega)]
  go_wp2_with fail
  refine (CC.out _ _ B3.out (by omega) (by omega)).mono ?_
  rintro e w' ⟨rfl, rfl⟩
  by_cases g4 : left - xi - p - xn < (xc : Int)
  · have X := Lib.hid (show szL left (xi + p + xn + xc + xl) = -1 from szL_no (by omega))
    rw [NC.out _ g4]
    go_wp2
    go_ret
    exact ⟨ret_i64S X.out.symm, B3.out⟩
  rw [YC.out _ (by omega)]
  go_wp2_with fail
  refine (CL.out _ _ B3.out (by omega) (by omega)).mono ?_
  rintro e w' ⟨rfl, rfl⟩
  by_cases g5 : left - xi - p - xn - xc < (xl : Int)
  · have X := Lib.hid (show szL left (xi + p + xn + xc + xl) = -1 from szL_no (by omega))
    rw [NL.out _ g5]
    go_wp2
    go_ret
    exact ⟨ret_i64S X.out.symm, B3.out⟩
  rw [YL.out _ (by omega)]
  have X := Lib.hid (show szL left (xi + p + xn + xc + xl) = left - xi - p - xn - xc - xl by rw [szL_yes (by omega)]; omega)
  go_wp2
  go_ret
  exact ⟨ret_i64S X.out.symm, B3.out⟩
theorem szZero : SzOk 0 := ⟨fun _ _ _ _ _ _ h => h.elim⟩
theorem szAll : ∀ d, SzOk d
  | 0 => szZero
  | d + 1 => szStep d (szAll d)
end Go.Proofs.YtikgcogiiohahaaGreatDoor
