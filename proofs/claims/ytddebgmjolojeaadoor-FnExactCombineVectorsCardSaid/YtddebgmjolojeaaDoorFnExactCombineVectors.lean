/- Called with any arguments (lists of vectors, lists of strings), the law FnExactCombineVectors returns true and leaves everything as it was. Condition: the listed package-level variables read as the program's own initialisers lay them (the card ties them). -/
import Derived.Test.YtddebgmjolojeaaDoorRows
import Derived.Test.YtddebgmjolojeaaDoorCards
import Derived.Test.YtddebgmjolojeaaDoorTie
import Derived.Test.YtddebgmjolojeaaDoorMc1
import Derived.Test.YtddebgmjolojeaaDoorMc5
import Derived.Test.YtddebgmjolojeaaDoorMc6
import Derived.Test.YtddebgmjolojeaaDoorMc7
import Derived.Test.YtddebgmjolojeaaDoorMc8
import Derived.Test.YtddebgmjolojeaaDoorMc9
import Derived.Test.YtddebgmjolojeaaDoorMc3
import Derived.Test.YtddebgmjolojeaaDoorMc2
import Derived.WalkKit
import Derived.ProofKit
import Derived.OpenShut
import Derived.ShutString
import Derived.ChangeOld
import Derived.Carry
import Derived.Below
import Derived.LaidMore
import Derived.Deep.DeepHandedRow
import Derived.Stop.Joined
import Derived.SevenTiedAt
namespace Go.Proofs.YtddebgmjolojeaaDoor.fnExactCombineVectors
open Go.ChangeShapes Go.WideShapes Go.ChangeAt Go.RowKit
open Go.ChangeMaps (open_string shut_string)
set_option linter.unusedVariables false

theorem laidOut : laidOutB Tryd.prog = true := by kernel_rfl
theorem own : ownKnob Tryd.prog.godebug = none := by kernel_rfl

/-- A vector of any depth that fits. -/
structure PlainD (d : Nat) (V : Vec) : Prop where
  small : Small d V
  fits : Fits d V
  cnt : 1 + cntM d V ≤ 8000000
theorem cnt_flat (d : Nat) (k : Int) (L : List It) (N C X : List ByteArray) (c e : Int) : cntM (d + 1) (.mk k L [] N C X c e) = 3 * L.length + N.length + C.length + X.length := by
  rw [cntM_eq]
  show 3 * L.length + sumN _ 0 + N.length + C.length + X.length = _
  simp [sumN]
theorem plain_noV (d : Nat) : PlainD (d + 1) noV := by
  refine ⟨?_, ?_, ?_⟩
  · show Small (d + 1) (.mk 0 [] [] [] [] [] 0 0)
    unfold Small
    exact ⟨Nat.zero_le _, Nat.zero_le _, Nat.zero_le _, Nat.zero_le _, Nat.zero_le _, (fun _ h => by cases h), (fun _ h => by cases h), (fun _ h => by cases h), (fun _ h => by cases h), (fun _ h => by cases h)⟩
  · show Fits (d + 1) (.mk 0 [] [] [] [] [] 0 0)
    unfold Fits
    exact ⟨⟨by decide, by decide⟩, ⟨by decide, by decide⟩, ⟨by decide, by decide⟩, Nat.zero_le _, Nat.zero_le _, Nat.zero_le _, Nat.zero_le _, Nat.zero_le _, (fun _ h => by cases h), (fun _ h => by cases h), (fun _ h => by cases h), (fun _ h => by cases h), (fun _ h => by cases h)⟩
  · show 1 + cntM (d + 1) (.mk 0 [] [] [] [] [] 0 0) ≤ 8000000
    rw [cnt_flat]; simp
theorem sum_lin {f c : Nat → Nat} : ∀ k, (∀ i, i < k → f i ≤ 33 * c i + 26) → sumN f k ≤ 33 * sumN c k + 26 * k
  | 0, _ => Nat.zero_le _
  | k + 1, h => by
    have h1 := sum_lin k (fun i hi => h i (by omega))
    have h2 := h k (by omega)
    show sumN f k + f k ≤ 33 * (sumN c k + c k) + 26 * (k + 1)
    omega
theorem cnt_valid : ∀ (n d : Nat) (v : Vec), IsV n v → cntM d v ≤ 33 * cellsV n v + 23
  | _, 0, _, _ => Nat.zero_le _
  | 0, d + 1, .mk kk items parts names cls levels code env, h => by
    have hf : FlatOk kk items parts.length names cls levels code env := h.flat
    have hp : parts = [] := List.eq_nil_of_length_eq_zero h.2
    subst hp
    have h1 := hf.h_names
    have h2 := hf.h_cls.1
    have h3 := hf.h_levels.1
    have h4 := hf.h_func
    have e : cntM (d + 1) (.mk kk items [] names cls levels code env) = 3 * items.length + names.length + cls.length + levels.length := cnt_flat d kk items names cls levels code env
    have e2 : cellsV 0 (.mk kk items [] names cls levels code env) = lenV kk items.length 0 := rfl
    rw [e, e2]
    simp only [List.length_nil] at h1
    unfold lenV at h1 ⊢
    by_cases h5 : kk = 5
    · have := h4 h5; rw [if_pos h5]; omega
    · rw [if_neg h5] at h1 ⊢; omega
  | n + 1, d + 1, .mk kk items parts names cls levels code env, h => by
    have hf : FlatOk kk items parts.length names cls levels code env := h.flat
    have h1 := hf.h_names
    have h2 := hf.h_cls.1
    have h3 := hf.h_levels.1
    have h4 := hf.h_func
    have h6 := hf.h_noParts
    have hs := sum_lin (f := fun i => cntM d (parts.getD i noV) + 3) (c := fun i => cellsV n (parts.getD i noV)) parts.length (fun i hi => by have := cnt_valid n d _ (h.2 i hi); show cntM d (parts.getD i noV) + 3 ≤ 33 * cellsV n (parts.getD i noV) + 26; have h' : cntM d (parts.getD i noV) ≤ 33 * cellsV n (parts.getD i noV) + 23 := this; omega)
    have e2 : cellsV (n + 1) (.mk kk items parts names cls levels code env) = lenV kk items.length parts.length + sumN (fun i => cellsV n (parts.getD i noV)) parts.length := rfl
    have e1 : cntM (d + 1) (.mk kk items parts names cls levels code env) = 3 * items.length + sumN (fun i => cntM d (parts.getD i noV) + 3) parts.length + names.length + cls.length + levels.length := cntM_eq _ _ _ _ _ _ _ _ _
    rw [e1, e2]
    unfold lenV at h1 ⊢
    by_cases h5 : kk = 5
    · have := h4 h5; have := h6 (by omega); rw [if_pos h5]; omega
    · rw [if_neg h5] at h1 ⊢; omega
/-- All that came in, as one vector. -/
def allIn (l : List Vec) (n : Nat) (f : Nat → ByteArray) : Vec := .mk 4 [] l ((List.range n).map f) [] [] 0 0
theorem rng_len (n : Nat) (f : Nat → ByteArray) : ((List.range n).map f).length = n := by simp
theorem sumF_cg {f g : Nat → ByteArray} : ∀ n, (∀ i, i < n → f i = g i) → sumF f n = sumF g n
  | 0, _ => rfl
  | n + 1, h => by
    show sumF f n + (f n).size = sumF g n + (g n).size
    rw [sumF_cg n (fun i hi => h i (by omega)), h n (by omega)]
theorem wV_in (d : Nat) (l : List Vec) (n : Nat) (f : Nat → ByteArray) : wV (d + 1) (allIn l n f) = (l.length + sumN (fun i => wV d (l.getD i noV)) l.length) + (n + sumF f n) := by
  have e : wV (d + 1) (allIn l n f) = wI [] + (l.length + sumN (fun i => wV d (l.getD i noV)) l.length) + wS ((List.range n).map f) + wS [] + wS [] := rfl
  have e2 : wS ((List.range n).map f) = n + sumF f n := by
    have e3 : wS ((List.range n).map f) = ((List.range n).map f).length + sumF (txtS ((List.range n).map f)) ((List.range n).map f).length := rfl
    rw [e3, rng_len]
    congr 1
    exact sumF_cg _ (fun i hi => by unfold txtS; simp [List.getD_eq_getElem?_getD, hi])
  rw [e, e2]
  show 0 + _ + _ + 0 + 0 = _
  omega
theorem fits_in {d : Nat} {l : List Vec} {n : Nat} {f : Nat → ByteArray} (hl : l.length ≤ maxLen) (hp : ∀ p ∈ l, Fits d p) (hn : n ≤ maxLen) (hf : ∀ i, (f i).size ≤ maxLen) : Fits (d + 1) (allIn l n f) := by
  show Fits (d + 1) (.mk 4 [] l ((List.range n).map f) [] [] 0 0)
  unfold Fits
  exact ⟨⟨by decide, by decide⟩, ⟨by decide, by decide⟩, ⟨by decide, by decide⟩, Nat.zero_le _, hl, by rw [rng_len]; exact hn, Nat.zero_le _, Nat.zero_le _, (fun _ h => by cases h), fun s hs => by obtain ⟨i, _, rfl⟩ := List.mem_map.1 hs; exact hf i, (fun _ h => by cases h), (fun _ h => by cases h), hp⟩
theorem specCombine (d : Nat) (l : List Vec) (N : List ByteArray) (pa na : Option Addr) (pc nc lo hi : Nat) (w : World) (hP : VecsAt lo hi w d pa l) (hN : TextsAt lo hi w na N) (hhi : hi ≤ w.heap.size) (hsp : ∀ i, i < l.length → Small d (l.getD i noV)) (ll : l.length ≤ 1048576) (lN : N.length ≤ 1048576) (zN : ∀ s ∈ N, s.size ≤ 1048576) (hz : AllV l → LabOk l N → totL l l.length ≤ 40 → Small (d + 1) (cmR l N)) :
    Calls Tryd.prog 14 #[.slice pa l.length pc, .slice na N.length nc] w (ResVS (d + 1) (cmV l N) (cmS l N) w) := by
  by_cases h : N.length = 0
  · exact specCombineF d l N pa na pc nc lo hi w hP hN hhi hsp ll lN zN hz h
  · exact specCombineT d l N pa na pc nc lo hi w hP hN hhi hsp ll lN zN hz (Nat.pos_of_ne_zero h)
theorem implCombine (d : Nat) (l : List Vec) (N : List ByteArray) (pa na : Option Addr) (pc nc lo hi : Nat) (w : World) (hP : VecsAt lo hi w d pa l) (hN : TextsAt lo hi w na N) (hhi : hi ≤ w.heap.size) (hsp : ∀ i, i < l.length → Small d (l.getD i noV)) (ll : l.length ≤ 1048576) (lN : N.length ≤ 1048576) (zN : ∀ s ∈ N, s.size ≤ 1048576) (hz : AllV l → LabOk l N → totL l l.length ≤ 40 → Small (d + 1) (cmR l N)) (tab : Lib.TabIs Tryd.prog w "internal/strconv.uint64pow10" .u64 Lib.pow10Tab) :
    Calls Tryd.prog 17 #[.slice pa l.length pc, .slice na N.length nc] w (ResVS (d + 1) (cmV l N) (cmS l N) w) := by
  by_cases h : N.length = 0
  · exact implCombineF d l N pa na pc nc lo hi w hP hN hhi hsp ll lN zN hz tab h
  · exact implCombineT d l N pa na pc nc lo hi w hP hN hhi hsp ll lN zN hz tab (Nat.pos_of_ne_zero h)
theorem sumN_one (f : Nat → Nat) : ∀ n i, i < n → f i ≤ sumN f n
  | 0, _, h => absurd h (Nat.not_lt_zero _)
  | n + 1, i, h => by
    show f i ≤ sumN f n + f n
    by_cases e : i = n
    · subst e; omega
    · have := sumN_one f n i (by omega); omega
theorem nmb_of {d n : Nat} {l : List Vec} {f : Nat → ByteArray} (hs : ∀ i, i < l.length → Small d (l.getD i noV)) (h : (l.length + sumN (fun i => wV d (l.getD i noV)) l.length) + (n + sumF f n) ≤ 1048576) : NmB l ((List.range n).map f) := by
  intro i q hi
  have h1 := nm_in q (hs i hi)
  have h2 := sumN_one (fun i => wV d (l.getD i noV)) l.length i hi
  have h2 : wV d (l.getD i noV) ≤ sumN (fun i => wV d (l.getD i noV)) l.length := h2
  have h3 : (nmA ((List.range n).map f) i).size = 0 ∨ (nmA ((List.range n).map f) i).size + 1 ≤ n + sumF f n := by
    unfold nmA
    by_cases hin : i < n
    · right
      rw [show ((List.range n).map f).getD i ⟨#[]⟩ = f i by simp [List.getD_eq_getElem?_getD, hin]]
      have := sumF_at f hin
      omega
    · left
      rw [List.getD_eq_getElem?_getD, List.getElem?_eq_none (by simp; omega)]
      rfl
  omega
theorem cm_plain {d : Nat} {l : List Vec} {N : List ByteArray} (hd : 1 ≤ d) (hs : ∀ i, i < l.length → Small d (l.getD i noV)) (hf : ∀ i, i < l.length → Fits d (l.getD i noV)) (hb : NmB l N) : PlainD (d + 1) (cmV l N) := by
  by_cases h : AllV l ∧ LabOk l N ∧ totL l l.length ≤ 40 ∧ ValidV (cmR l N)
  · obtain ⟨h1, h2, h3, h4⟩ := h
    rw [(cm_yes h1 h2 h3 h4).1]
    have hc := cnt_valid 3 (d + 1) _ h4.1
    have := h4.2
    exact ⟨cm_small h1 hd hs h3 hb, cm_fits h1 hd hs hf h3 hb h4, by omega⟩
  · have e : cmV l N = noV := by unfold cmV; rw [bB_no h]
    rw [e]; exact plain_noV d

set_option maxHeartbeats 2000000 in
set_option maxRecDepth 100000 in
theorem walk (l0 : List Vec) (a0 : Option Addr) (cap0 d0 : Nat) (a1 : Option Addr) (n1 cap1 : Nat) (f1 : Nat → ByteArray) (w : World) (hv0 : VecsAt 0 w.heap.size w d0 a0 l0) (hn0 : l0.length ≤ maxLen) (hf0 : ∀ p ∈ l0, Fits d0 p) (hs1 : StrsAt w.heap.size w a1 n1 f1) (hn1 : n1 ≤ maxLen) (hf1 : ∀ i, (f1 i).size ≤ maxLen) (tab : Lib.TabIs Tryd.prog w "internal/strconv.uint64pow10" .u64 Lib.pow10Tab) (hsh : w.ShapedOpen Tryd.prog) :
    Calls Tryd.prog 4 #[.slice a0 l0.length cap0, .slice a1 n1 cap1] w fun e w' => e = .returned (.bool true) ∧ Below w.heap.size w w' := by
  have hv1 := Lib.hid hv0.more
  have hfd : ∀ p ∈ l0, Fits (d0 + 1) p := fun p hp => Fits.more d0 p (hf0 p hp)
  have hfi := fits_in (d := d0 + 1) hn0 hfd hn1 hf1
  have hfA : ∀ i, i < l0.length → Fits (d0 + 1) (l0.getD i noV) := fun i hi => hfd _ (by rw [List.getD_eq_getElem?_getD, List.getElem?_eq_getElem hi]; exact List.getElem_mem hi)
  have hw := wV_in (d0 + 1) l0 n1 f1
  have S1 := Lib.hid hs1
  have hm0 : l0.length ≤ 9223372036854775807 := hn0
  have hm1 : n1 ≤ 9223372036854775807 := hn1
  have SZ0 := Lib.hid (fun (w1 : World) (hb : Below w.heap.size w w1) => szParts (d0 + 1) (szAll (d0 + 1)) l0 a0 cap0 1048576 0 w.heap.size w1 (hv1.out.below hb (Nat.le_refl _)) hb.size hfA hm0 (by omega) (by omega))
  clear hs1 hv0 hf0
  obtain ⟨W0, hW0⟩ : ∃ W0, l0.length + sumN (fun i => wV (d0 + 1) (l0.getD i noV)) l0.length = W0 := ⟨_, rfl⟩
  obtain ⟨W1, hW1⟩ : ∃ W1, n1 + sumF f1 n1 = W1 := ⟨_, rfl⟩
  rw [hW0] at SZ0
  rw [hW0, hW1] at hw
  by_cases hbig : 1048576 < W0
  · rw [szL_no (show (1048576 : Int) < (W0 : Int) by omega)] at SZ0
    clear hbig hw hW0 hW1 hfi hfA hfd tab hsh
    go_enter Tryd.func4, Tryd.ntmps4
    go_wp2_with fail
    with_reducible refine (SZ0.out _ (Below.refl _ _)).mono ?_
    rintro e w1 ⟨rfl, b⟩
    have B1 := Lib.hid b
    clear b
    go_wp2
    go_ret
    exact ⟨rfl, B1.out⟩
  rw [szL_yes (show (W0 : Int) ≤ 1048576 by omega)] at SZ0
  have SZ1 := Lib.hid (fun (w1 : World) (hb : Below w.heap.size w w1) => ((szStrs a1 n1 cap1 (1048576 - (W0 : Int)) f1 w.heap.size w1 (S1.out.below hb) hm1 (by omega) (by omega) (fun i _ => hf1 i)).mono (fun e w' h => by rw [szR_L, hW1] at h; exact ⟨h.1, h.2 ▸ Below.refl _ _⟩) :
    Calls Tryd.prog 13 #[.slice a1 n1 cap1, .int .i64 (1048576 - (W0 : Int))] w1 (fun e w' => e = .returned (.int .i64 (szL (1048576 - (W0 : Int)) W1)) ∧ Below w1.heap.size w1 w')))
  by_cases hbig2 : 1048576 < W0 + W1
  · rw [szL_no (show (1048576 - (W0 : Int)) < (W1 : Int) by omega)] at SZ1
    have h0 : ¬ (1048576 - (W0 : Int)) < 0 := by omega
    clear hbig2 hw hW0 hW1 hfi hfA hfd tab hsh
    go_enter Tryd.func4, Tryd.ntmps4
    go_wp2_with fail
    with_reducible refine (SZ0.out _ (Below.refl _ _)).mono ?_
    rintro e w1 ⟨rfl, b⟩
    have B1 := Lib.hid b
    clear b
    go_wp2_with fail
    with_reducible refine (SZ1.out _ B1.out).mono ?_
    rintro e w2 ⟨rfl, b⟩
    have B2 := Lib.hid (below_then B1.out b)
    clear b
    go_wp2
    go_ret
    exact ⟨rfl, B2.out⟩
  rw [szL_yes (show (W1 : Int) ≤ 1048576 - (W0 : Int) by omega)] at SZ1
  have hsi := small_of _ _ hfi (by rw [hw]; omega)
  have hci : 1 + cntM (d0 + 1 + 1) (allIn l0 n1 f1) ≤ 8000000 := by have := cntM_le (d0 + 1 + 1) (allIn l0 n1 f1); rw [hw] at this; omega
  have hsi' : Small (d0 + 1 + 1) (.mk 4 [] l0 ((List.range n1).map f1) [] [] 0 0) := hsi
  obtain ⟨_, s2, s3, _, _, _, s7, _, _, s10⟩ := hsi'
  have hsA : ∀ i, i < l0.length → Small (d0 + 1) (l0.getD i noV) := fun i hi => s10 _ (by rw [List.getD_eq_getElem?_getD, List.getElem?_eq_getElem hi]; exact List.getElem_mem hi)
  have hn1' : n1 ≤ 1048576 := by rw [rng_len] at s3; exact s3
  have ec : cntM (d0 + 1 + 1) (allIn l0 n1 f1) = 3 * 0 + cntP (d0 + 1) l0 l0.length + ((List.range n1).map f1).length + 0 + 0 := rfl
  rw [rng_len] at ec
  have TO0 := Lib.hid (fun (w1 : World) (hb : Below w.heap.size w w1) => toVecsR (d0 + 1) l0 a0 cap0 0 w.heap.size w1 (hv1.out.below hb (Nat.le_refl _)) hb.size hsA s2)
  have TO1 := Lib.hid (fun (w1 : World) (hb : Below w.heap.size w w1) => toStrsR a1 n1 cap1 f1 w.heap.size w1 (S1.out.below hb) hb.size hn1')
  have QE0 := Lib.hid (fun (w1 : World) (x y : Option Addr) (hx : VecsAt 0 w1.heap.size w1 (d0 + 1) x l0) (hy : VecsAt 0 w1.heap.size w1 (d0 + 1) y l0) => eqParts (d0 + 1) (eqAll (d0 + 1)) l0 x y l0.length l0.length 0 w1.heap.size 0 w1.heap.size w1 hx (Nat.le_refl _) hy (Nat.le_refl _) hfA hm0)
  have QE1 := Lib.hid (fun (w1 : World) (x y : Option Addr) (hx : StrsAt w1.heap.size w1 x n1 f1) (hy : StrsAt w1.heap.size w1 y n1 f1) => eqStrsR x y n1 n1 n1 f1 w1.heap.size w1 hx hy hn1')
  have MK0 := Lib.hid (fun (w1 : World) (x : Option Addr) (lo hi : Nat) (h : OwnL (d0 + 1) l0 x lo hi w1) (hh : hi ≤ w1.heap.size) => (by
    have h := markVecsR (d0 + 1) l0 x l0.length 1 lo hi w1 h hh s2 hsA (Nat.le_refl _) (by omega)
    rw [show (((1 : Nat) : Int) + (cntP (d0 + 1) l0 l0.length : Int)) = ((1 + cntP (d0 + 1) l0 l0.length : Nat) : Int) by omega] at h
    exact h : Calls Tryd.prog 20 #[.slice x l0.length l0.length, .int .i64 1] w1 (fun e w' => e = .returned (.int .i64 ((1 + cntP (d0 + 1) l0 l0.length : Nat) : Int)) ∧ Within lo hi w1 w')))
  have MK1 := Lib.hid (fun (w1 : World) (x : Option Addr) (lo hi : Nat) (h : OwnS x n1 f1 lo hi w1) (_ : hi ≤ w1.heap.size) => (by
    have h := markStrsR x n1 n1 (1 + cntP (d0 + 1) l0 l0.length) f1 lo hi w1 h hn1' (by omega) (by omega)
    rw [show (((1 + cntP (d0 + 1) l0 l0.length : Nat) : Int) + (n1 : Int)) = ((1 + cntP (d0 + 1) l0 l0.length + n1 : Nat) : Int) by omega] at h
    exact h : Calls Tryd.prog 21 #[.slice x n1 n1, .int .i64 ((1 + cntP (d0 + 1) l0 l0.length : Nat) : Int)] w1 (fun e w' => e = .returned (.int .i64 ((1 + cntP (d0 + 1) l0 l0.length + n1 : Nat) : Int)) ∧ Within lo hi w1 w')))
  have NB := nmb_of (n := n1) (f := f1) hsA (by rw [hW0, hW1]; omega)
  have HZC := Lib.hid (fun (h : AllV l0) (_ : LabOk l0 ((List.range n1).map f1)) (ht : totL l0 l0.length ≤ 40) => cm_small h (Nat.le_add_left 1 d0) hsA ht NB)
  have SP := Lib.hid (fun (w1 : World) (x y : Option Addr) (hx : VecsAt 0 w1.heap.size w1 (d0 + 1) x l0) (hy : StrsAt w1.heap.size w1 y n1 f1) => (by
    have h := specCombine (d0 + 1) l0 ((List.range n1).map f1) x y l0.length n1 0 w1.heap.size w1 hx (texts_of_strs hy) (Nat.le_refl _) hsA s2 s3 s7 HZC.out
    rw [rng_len] at h
    exact h : Calls Tryd.prog 14 #[.slice x l0.length l0.length, .slice y n1 n1] w1 (ResVS (d0 + 1 + 1) (cmV l0 ((List.range n1).map f1)) (cmS l0 ((List.range n1).map f1)) w1)))
  have IM := Lib.hid (fun (w1 : World) (x y : Option Addr) (hb : Below w.heap.size w w1) (hx : VecsAt 0 w1.heap.size w1 (d0 + 1) x l0) (hy : StrsAt w1.heap.size w1 y n1 f1) => (by
    have h := implCombine (d0 + 1) l0 ((List.range n1).map f1) x y l0.length n1 0 w1.heap.size w1 hx (texts_of_strs hy) (Nat.le_refl _) hsA s2 s3 s7 HZC.out (tab_below tab hb)
    rw [rng_len] at h
    exact h : Calls Tryd.prog 17 #[.slice x l0.length l0.length, .slice y n1 n1] w1 (ResVS (d0 + 1 + 1) (cmV l0 ((List.range n1).map f1)) (cmS l0 ((List.range n1).map f1)) w1)))
  have PV := cm_plain (Nat.le_add_left 1 d0) hsA hfA NB
  have HS0 := PV.small
  have HF0 := PV.fits
  have HC0 := PV.cnt
  obtain ⟨V, hV⟩ : ∃ V, cmV l0 ((List.range n1).map f1) = V := ⟨_, rfl⟩
  obtain ⟨s, hs⟩ : ∃ s, cmS l0 ((List.range n1).map f1) = s := ⟨_, rfl⟩
  rw [hV] at SP IM HS0 HF0 HC0
  rw [hs] at SP IM
  obtain ⟨c0, hc0⟩ : ∃ c, 1 + cntP (d0 + 1) l0 l0.length = c := ⟨_, rfl⟩
  rw [hc0] at MK0 MK1
  obtain ⟨c1, hc1⟩ : ∃ c, c0 + n1 = c := ⟨_, rfl⟩
  rw [hc1] at MK1
  obtain ⟨n0, hn0'⟩ : ∃ n, l0.length = n := ⟨_, rfl⟩
  rw [hn0'] at SZ0 TO0 QE0 MK0 SP IM ⊢
  clear NB HZC tab hsh hV hs PV hsi hci ec hc0 hc1 hw hW0 hW1 hfi hfA hfd hsA s2 s3 s7 s10 hn0' hn0 hm0
  have SMV := Lib.hid (HS0)
  have FTV := Lib.hid (HF0)
  have CMV := Lib.hid (HC0)
  have EQ := Lib.hid (fun (w1 : World) (x y : Value) (h : VecAt 0 w1.heap.size w1 (d0 + 1 + 1) V x) (k : VecAt 0 w1.heap.size w1 (d0 + 1 + 1) V y) => (eqAll (d0 + 1 + 1)).out V x y 0 w1.heap.size 0 w1.heap.size w1 h (Nat.le_refl _) k (Nat.le_refl _) FTV.out)
  have MV := Lib.hid (fun (w1 : World) (y : Value) (lo hi : Nat) (h : Own (d0 + 1 + 1) V y lo hi w1) (hh : hi ≤ w1.heap.size) => markOwn (d0 + 1 + 1) V y lo hi w1 h hh SMV.out CMV.out)
  have HV := Lib.hid (fun (w1 : World) (y : Value) (lo hi : Nat) (h : Own (d0 + 1 + 1) (markV (d0 + 1 + 1) 1 V) y lo hi w1) (hh : hi ≤ w1.heap.size) => heldOwn (d0 + 1 + 1) V y lo hi w1 h hh SMV.out CMV.out)
  clear SMV FTV CMV
  obtain ⟨cm, hcm'⟩ : ∃ c, 1 + cntM (d0 + 1 + 1) V = c := ⟨_, rfl⟩
  rw [hcm'] at MV HV
  clear hcm'
  clear HS0 HF0 HC0
  have h00 : ¬ (1048576 - (W0 : Int)) < 0 := by omega
  have h01 : ¬ (1048576 - (W0 : Int) - (W1 : Int)) < 0 := by omega
  go_enter Tryd.func4, Tryd.ntmps4
  go_wp2_with fail
  with_reducible refine (SZ0.out _ (Below.refl _ _)).mono ?_
  rintro e w1 ⟨rfl, b⟩
  have Z1 := Lib.hid b.size
  have B1 := Lib.hid (below_then (Below.refl _ _) b)
  clear b
  go_wp2_with fail
  with_reducible refine (SZ1.out _ B1.out).mono ?_
  rintro e w2 ⟨rfl, b⟩
  have Z2 := Lib.hid b.size
  have B2 := Lib.hid (below_then B1.out b)
  clear b
  go_wp2_with fail
  with_reducible refine (TO0.out _ B2.out).mono ?_
  rintro e w3 ⟨xs0, rfl, ho, b⟩
  have Z3 := Lib.hid b.size
  have B3 := Lib.hid (below_then B2.out b)
  clear b
  have As0_3 := Lib.hid (ho)
  have As0_h3 := Lib.hid ((Nat.le_refl _) : w3.heap.size ≤ w3.heap.size)
  clear ho
  go_wp2_with fail
  with_reducible refine (TO1.out _ B3.out).mono ?_
  rintro e w4 ⟨xs1, rfl, ho, b⟩
  have Z4 := Lib.hid b.size
  have B4 := Lib.hid (below_then B3.out b)
  have As0_4 := Lib.hid (As0_3.out.below b As0_h3.out)
  have As0_h4 := Lib.hid (Nat.le_trans As0_h3.out b.size)
  clear As0_3 As0_h3
  clear b
  have As1_4 := Lib.hid (ho)
  have As1_h4 := Lib.hid ((Nat.le_refl _) : w4.heap.size ≤ w4.heap.size)
  clear ho
  go_wp2_with fail
  with_reducible refine (SP.out _ xs0 xs1 (As0_4.out.at_ As0_h4.out) (As1_4.out.at_ As1_h4.out)).mono ?_
  rintro e w5 ⟨y, rfl, ho, b⟩
  obtain ⟨uk, ua1, un1, um1, ua2, un2, um2, ua3, un3, um3, ua4, un4, um4, ua5, un5, um5, uc, ue, rfl⟩ := ho.agg
  have Z5 := Lib.hid b.size
  have B5 := Lib.hid (below_then B4.out b)
  have As0_5 := Lib.hid (As0_4.out.below b As0_h4.out)
  have As0_h5 := Lib.hid (Nat.le_trans As0_h4.out b.size)
  clear As0_4 As0_h4
  have As1_5 := Lib.hid (As1_4.out.below b As1_h4.out)
  have As1_h5 := Lib.hid (Nat.le_trans As1_h4.out b.size)
  clear As1_4 As1_h4
  clear b
  have Ou5 := Lib.hid (ho)
  have Ouh5 := Lib.hid ((Nat.le_refl _) : w5.heap.size ≤ w5.heap.size)
  clear ho
  clear As0_5 As0_h5
  clear As1_5 As1_h5
  go_wp2_with fail
  obtain ⟨w6, hW⟩ : ∃ W, w5.alloc (.cells #[.int .i64 uk, .slice ua1 un1 um1, .slice ua2 un2 um2, .slice ua3 un3 um3, .slice ua4 un4 um4, .slice ua5 un5 um5, .int .i64 uc, .int .i64 ue] 31) = W := ⟨_, rfl⟩
  have b : Below w5.heap.size w5 w6 := hW ▸ below1 w5 _
  have kb : w6.heap[w5.heap.size]? = some (.cells #[.int .i64 uk, .slice ua1 un1 um1, .slice ua2 un2 um2, .slice ua3 un3 um3, .slice ua4 un4 um4, .slice ua5 un5 um5, .int .i64 uc, .int .i64 ue] 31 (0, 0)) := hW ▸ blk_new w5 _ rfl
  rw [hW]
  clear hW
  have Z6 := Lib.hid b.size
  have B6 := Lib.hid (below_then B5.out b)
  have Ou6 := Lib.hid (Ou5.out.below b Ouh5.out)
  have Ouh6 := Lib.hid (Nat.le_trans Ouh5.out b.size)
  clear Ou5 Ouh5
  clear b
  have ZS6 := Lib.hid (Array.getElem?_eq_some_iff.1 kb).1
  have Ku6 := Lib.hid (kb)
  clear kb
  with_reducible refine (TO0.out _ B6.out).mono ?_
  rintro e w7 ⟨xx0, rfl, ho, b⟩
  have Z7 := Lib.hid b.size
  have B7 := Lib.hid (below_then B6.out b)
  have Ou7 := Lib.hid (Ou6.out.below b Ouh6.out)
  have Ouh7 := Lib.hid (Nat.le_trans Ouh6.out b.size)
  clear Ou6 Ouh6
  have Ku7 := Lib.hid (blk_below b Ku6.out)
  clear Ku6
  clear b
  have Ax0_7 := Lib.hid (ho)
  have Ax0_h7 := Lib.hid ((Nat.le_refl _) : w7.heap.size ≤ w7.heap.size)
  clear ho
  go_wp2_with fail
  with_reducible refine (TO1.out _ B7.out).mono ?_
  rintro e w8 ⟨xx1, rfl, ho, b⟩
  have Z8 := Lib.hid b.size
  have B8 := Lib.hid (below_then B7.out b)
  have Ou8 := Lib.hid (Ou7.out.below b Ouh7.out)
  have Ouh8 := Lib.hid (Nat.le_trans Ouh7.out b.size)
  clear Ou7 Ouh7
  have Ku8 := Lib.hid (blk_below b Ku7.out)
  clear Ku7
  have Ax0_8 := Lib.hid (Ax0_7.out.below b Ax0_h7.out)
  have Ax0_h8 := Lib.hid (Nat.le_trans Ax0_h7.out b.size)
  clear Ax0_7 Ax0_h7
  clear b
  have Ax1_8 := Lib.hid (ho)
  have Ax1_h8 := Lib.hid ((Nat.le_refl _) : w8.heap.size ≤ w8.heap.size)
  clear ho
  go_wp2_with fail
  with_reducible refine (IM.out _ xx0 xx1 B8.out (Ax0_8.out.at_ Ax0_h8.out) (Ax1_8.out.at_ Ax1_h8.out)).mono ?_
  rintro e w9 ⟨y, rfl, ho, b⟩
  obtain ⟨gk, ga1, gn1, gm1, ga2, gn2, gm2, ga3, gn3, gm3, ga4, gn4, gm4, ga5, gn5, gm5, gc, ge, rfl⟩ := ho.agg
  have Z9 := Lib.hid b.size
  have B9 := Lib.hid (below_then B8.out b)
  have Ou9 := Lib.hid (Ou8.out.below b Ouh8.out)
  have Ouh9 := Lib.hid (Nat.le_trans Ouh8.out b.size)
  clear Ou8 Ouh8
  have Ku9 := Lib.hid (blk_below b Ku8.out)
  clear Ku8
  have Ax0_9 := Lib.hid (Ax0_8.out.below b Ax0_h8.out)
  have Ax0_h9 := Lib.hid (Nat.le_trans Ax0_h8.out b.size)
  clear Ax0_8 Ax0_h8
  have Ax1_9 := Lib.hid (Ax1_8.out.below b Ax1_h8.out)
  have Ax1_h9 := Lib.hid (Nat.le_trans Ax1_h8.out b.size)
  clear Ax1_8 Ax1_h8
  clear b
  have Og9 := Lib.hid (ho)
  have Ogh9 := Lib.hid ((Nat.le_refl _) : w9.heap.size ≤ w9.heap.size)
  clear ho
  obtain ⟨uk0, uk1, uk2, uk3, uk4, uk5, uk6, uk7⟩ := vec8 Ku9.out
  have hzu := (Array.getElem?_eq_some_iff.1 Ku9.out).1
  go_wp2_with fail
  obtain ⟨w10, hW⟩ : ∃ W, w9.alloc (.cells #[.int .i64 gk, .slice ga1 gn1 gm1, .slice ga2 gn2 gm2, .slice ga3 gn3 gm3, .slice ga4 gn4 gm4, .slice ga5 gn5 gm5, .int .i64 gc, .int .i64 ge] 31) = W := ⟨_, rfl⟩
  have b : Below w9.heap.size w9 w10 := hW ▸ below1 w9 _
  have kb : w10.heap[w9.heap.size]? = some (.cells #[.int .i64 gk, .slice ga1 gn1 gm1, .slice ga2 gn2 gm2, .slice ga3 gn3 gm3, .slice ga4 gn4 gm4, .slice ga5 gn5 gm5, .int .i64 gc, .int .i64 ge] 31 (0, 0)) := hW ▸ blk_new w9 _ rfl
  rw [hW]
  clear hW
  have Z10 := Lib.hid b.size
  have B10 := Lib.hid (below_then B9.out b)
  have Ou10 := Lib.hid (Ou9.out.below b Ouh9.out)
  have Ouh10 := Lib.hid (Nat.le_trans Ouh9.out b.size)
  clear Ou9 Ouh9
  have Ku10 := Lib.hid (blk_below b Ku9.out)
  clear Ku9
  have Ax0_10 := Lib.hid (Ax0_9.out.below b Ax0_h9.out)
  have Ax0_h10 := Lib.hid (Nat.le_trans Ax0_h9.out b.size)
  clear Ax0_9 Ax0_h9
  have Ax1_10 := Lib.hid (Ax1_9.out.below b Ax1_h9.out)
  have Ax1_h10 := Lib.hid (Nat.le_trans Ax1_h9.out b.size)
  clear Ax1_9 Ax1_h9
  have Og10 := Lib.hid (Og9.out.below b Ogh9.out)
  have Ogh10 := Lib.hid (Nat.le_trans Ogh9.out b.size)
  clear Og9 Ogh9
  clear b
  have ZS10 := Lib.hid (Array.getElem?_eq_some_iff.1 kb).1
  have Kg10 := Lib.hid (kb)
  clear kb
  with_reducible refine (EQ.out _ _ _ (Og10.out.vat Ogh10.out) (Ou10.out.vat Ouh10.out)).mono ?_
  rintro e w11 ⟨rfl, b⟩
  try clear hzu
  clear uk0 uk1 uk2 uk3 uk4 uk5 uk6 uk7
  have Z11 := Lib.hid b.size
  have B11 := Lib.hid (below_then B10.out b)
  have Ou11 := Lib.hid (Ou10.out.below b Ouh10.out)
  have Ouh11 := Lib.hid (Nat.le_trans Ouh10.out b.size)
  clear Ou10 Ouh10
  have Ku11 := Lib.hid (blk_below b Ku10.out)
  clear Ku10
  have Ax0_11 := Lib.hid (Ax0_10.out.below b Ax0_h10.out)
  have Ax0_h11 := Lib.hid (Nat.le_trans Ax0_h10.out b.size)
  clear Ax0_10 Ax0_h10
  have Ax1_11 := Lib.hid (Ax1_10.out.below b Ax1_h10.out)
  have Ax1_h11 := Lib.hid (Nat.le_trans Ax1_h10.out b.size)
  clear Ax1_10 Ax1_h10
  have Og11 := Lib.hid (Og10.out.below b Ogh10.out)
  have Ogh11 := Lib.hid (Nat.le_trans Ogh10.out b.size)
  clear Og10 Ogh10
  have Kg11 := Lib.hid (blk_below b Kg10.out)
  clear Kg10
  clear b
  go_wp2_with fail
  with_reducible refine (TO0.out _ B11.out).mono ?_
  rintro e w12 ⟨xq0, rfl, ho, b⟩
  have Z12 := Lib.hid b.size
  have B12 := Lib.hid (below_then B11.out b)
  have Ou12 := Lib.hid (Ou11.out.below b Ouh11.out)
  have Ouh12 := Lib.hid (Nat.le_trans Ouh11.out b.size)
  clear Ou11 Ouh11
  have Ku12 := Lib.hid (blk_below b Ku11.out)
  clear Ku11
  have Ax0_12 := Lib.hid (Ax0_11.out.below b Ax0_h11.out)
  have Ax0_h12 := Lib.hid (Nat.le_trans Ax0_h11.out b.size)
  clear Ax0_11 Ax0_h11
  have Ax1_12 := Lib.hid (Ax1_11.out.below b Ax1_h11.out)
  have Ax1_h12 := Lib.hid (Nat.le_trans Ax1_h11.out b.size)
  clear Ax1_11 Ax1_h11
  have Og12 := Lib.hid (Og11.out.below b Ogh11.out)
  have Ogh12 := Lib.hid (Nat.le_trans Ogh11.out b.size)
  clear Og11 Ogh11
  have Kg12 := Lib.hid (blk_below b Kg11.out)
  clear Kg11
  clear b
  have Aq0_12 := Lib.hid (ho)
  have Aq0_h12 := Lib.hid ((Nat.le_refl _) : w12.heap.size ≤ w12.heap.size)
  clear ho
  go_wp2_with fail
  with_reducible refine (QE0.out _ _ _ (Ax0_12.out.at_ Ax0_h12.out) (Aq0_12.out.at_ Aq0_h12.out)).mono ?_
  rintro e w13 ⟨rfl, b⟩
  have Z13 := Lib.hid b.size
  have B13 := Lib.hid (below_then B12.out b)
  have Ou13 := Lib.hid (Ou12.out.below b Ouh12.out)
  have Ouh13 := Lib.hid (Nat.le_trans Ouh12.out b.size)
  clear Ou12 Ouh12
  have Ku13 := Lib.hid (blk_below b Ku12.out)
  clear Ku12
  have Ax0_13 := Lib.hid (Ax0_12.out.below b Ax0_h12.out)
  have Ax0_h13 := Lib.hid (Nat.le_trans Ax0_h12.out b.size)
  clear Ax0_12 Ax0_h12
  have Ax1_13 := Lib.hid (Ax1_12.out.below b Ax1_h12.out)
  have Ax1_h13 := Lib.hid (Nat.le_trans Ax1_h12.out b.size)
  clear Ax1_12 Ax1_h12
  have Og13 := Lib.hid (Og12.out.below b Ogh12.out)
  have Ogh13 := Lib.hid (Nat.le_trans Ogh12.out b.size)
  clear Og12 Ogh12
  have Kg13 := Lib.hid (blk_below b Kg12.out)
  clear Kg12
  have Aq0_13 := Lib.hid (Aq0_12.out.below b Aq0_h12.out)
  have Aq0_h13 := Lib.hid (Nat.le_trans Aq0_h12.out b.size)
  clear Aq0_12 Aq0_h12
  clear b
  clear Aq0_13 Aq0_h13
  go_wp2_with fail
  with_reducible refine (TO1.out _ B13.out).mono ?_
  rintro e w14 ⟨xq1, rfl, ho, b⟩
  have Z14 := Lib.hid b.size
  have B14 := Lib.hid (below_then B13.out b)
  have Ou14 := Lib.hid (Ou13.out.below b Ouh13.out)
  have Ouh14 := Lib.hid (Nat.le_trans Ouh13.out b.size)
  clear Ou13 Ouh13
  have Ku14 := Lib.hid (blk_below b Ku13.out)
  clear Ku13
  have Ax0_14 := Lib.hid (Ax0_13.out.below b Ax0_h13.out)
  have Ax0_h14 := Lib.hid (Nat.le_trans Ax0_h13.out b.size)
  clear Ax0_13 Ax0_h13
  have Ax1_14 := Lib.hid (Ax1_13.out.below b Ax1_h13.out)
  have Ax1_h14 := Lib.hid (Nat.le_trans Ax1_h13.out b.size)
  clear Ax1_13 Ax1_h13
  have Og14 := Lib.hid (Og13.out.below b Ogh13.out)
  have Ogh14 := Lib.hid (Nat.le_trans Ogh13.out b.size)
  clear Og13 Ogh13
  have Kg14 := Lib.hid (blk_below b Kg13.out)
  clear Kg13
  clear b
  have Aq1_14 := Lib.hid (ho)
  have Aq1_h14 := Lib.hid ((Nat.le_refl _) : w14.heap.size ≤ w14.heap.size)
  clear ho
  go_wp2_with fail
  with_reducible refine (QE1.out _ _ _ (Ax1_14.out.at_ Ax1_h14.out) (Aq1_14.out.at_ Aq1_h14.out)).mono ?_
  rintro e w15 ⟨rfl, b⟩
  have Z15 := Lib.hid b.size
  have B15 := Lib.hid (below_then B14.out b)
  have Ou15 := Lib.hid (Ou14.out.below b Ouh14.out)
  have Ouh15 := Lib.hid (Nat.le_trans Ouh14.out b.size)
  clear Ou14 Ouh14
  have Ku15 := Lib.hid (blk_below b Ku14.out)
  clear Ku14
  have Ax0_15 := Lib.hid (Ax0_14.out.below b Ax0_h14.out)
  have Ax0_h15 := Lib.hid (Nat.le_trans Ax0_h14.out b.size)
  clear Ax0_14 Ax0_h14
  have Ax1_15 := Lib.hid (Ax1_14.out.below b Ax1_h14.out)
  have Ax1_h15 := Lib.hid (Nat.le_trans Ax1_h14.out b.size)
  clear Ax1_14 Ax1_h14
  have Og15 := Lib.hid (Og14.out.below b Ogh14.out)
  have Ogh15 := Lib.hid (Nat.le_trans Ogh14.out b.size)
  clear Og14 Ogh14
  have Kg15 := Lib.hid (blk_below b Kg14.out)
  clear Kg14
  have Aq1_15 := Lib.hid (Aq1_14.out.below b Aq1_h14.out)
  have Aq1_h15 := Lib.hid (Nat.le_trans Aq1_h14.out b.size)
  clear Aq1_14 Aq1_h14
  clear b
  clear Aq1_15 Aq1_h15
  go_wp2_with fail
  with_reducible refine (MK0.out _ _ _ _ Ax0_15.out Ax0_h15.out).mono ?_
  rintro e w16 ⟨rfl, t⟩
  have Z16 := Lib.hid t.size
  have B16 := Lib.hid (B15.out.trans (t.below (Nat.le_trans (Nat.le_trans (Nat.le_trans (Nat.le_trans (Nat.le_trans Z1.out Z2.out) Z3.out) Z4.out) Z5.out) Z6.out) B15.out.size))
  have Ou16 := Lib.hid (Ou15.out.within t (.inl Z6.out) Ouh15.out)
  have Ouh16 := Lib.hid (Nat.le_trans Ouh15.out t.size)
  clear Ou15 Ouh15
  have Ku16 := Lib.hid (t.blk (.inl (Nat.lt_of_lt_of_le ZS6.out (Nat.le_refl _))) Ku15.out)
  clear Ku15
  have Ax1_16 := Lib.hid (Ax1_15.out.within t (.inr (Nat.le_refl _)) Ax1_h15.out)
  have Ax1_h16 := Lib.hid (Nat.le_trans Ax1_h15.out t.size)
  clear Ax1_15 Ax1_h15
  have Og16 := Lib.hid (Og15.out.within t (.inr Z8.out) Ogh15.out)
  have Ogh16 := Lib.hid (Nat.le_trans Ogh15.out t.size)
  clear Og15 Ogh15
  have Kg16 := Lib.hid (t.blk (.inr (Nat.le_trans Z8.out Z9.out)) Kg15.out)
  clear Kg15
  clear Ax0_15 Ax0_h15
  clear t
  go_wp2_with fail
  with_reducible refine (MK1.out _ _ _ _ Ax1_16.out Ax1_h16.out).mono ?_
  rintro e w17 ⟨rfl, t⟩
  have Z17 := Lib.hid t.size
  have B17 := Lib.hid (B16.out.trans (t.below (Nat.le_trans (Nat.le_trans (Nat.le_trans (Nat.le_trans (Nat.le_trans (Nat.le_trans Z1.out Z2.out) Z3.out) Z4.out) Z5.out) Z6.out) Z7.out) B16.out.size))
  have Ou17 := Lib.hid (Ou16.out.within t (.inl (Nat.le_trans Z6.out Z7.out)) Ouh16.out)
  have Ouh17 := Lib.hid (Nat.le_trans Ouh16.out t.size)
  clear Ou16 Ouh16
  have Ku17 := Lib.hid (t.blk (.inl (Nat.lt_of_lt_of_le ZS6.out Z7.out)) Ku16.out)
  clear Ku16
  have Og17 := Lib.hid (Og16.out.within t (.inr (Nat.le_refl _)) Ogh16.out)
  have Ogh17 := Lib.hid (Nat.le_trans Ogh16.out t.size)
  clear Og16 Ogh16
  have Kg17 := Lib.hid (t.blk (.inr Z9.out) Kg16.out)
  clear Kg16
  clear Ax1_16 Ax1_h16
  clear t
  obtain ⟨gk0, gk1, gk2, gk3, gk4, gk5, gk6, gk7⟩ := vec8 Kg17.out
  obtain ⟨uk0, uk1, uk2, uk3, uk4, uk5, uk6, uk7⟩ := vec8 Ku17.out
  go_wp2_with fail
  with_reducible refine (EQ.out _ _ _ (Og17.out.vat Ogh17.out) (Ou17.out.vat Ouh17.out)).mono ?_
  rintro e w18 ⟨rfl, b⟩
  try clear hzg
  clear gk0 gk1 gk2 gk3 gk4 gk5 gk6 gk7
  try clear hzu
  clear uk0 uk1 uk2 uk3 uk4 uk5 uk6 uk7
  have Z18 := Lib.hid b.size
  have B18 := Lib.hid (below_then B17.out b)
  have Ou18 := Lib.hid (Ou17.out.below b Ouh17.out)
  have Ouh18 := Lib.hid (Nat.le_trans Ouh17.out b.size)
  clear Ou17 Ouh17
  have Ku18 := Lib.hid (blk_below b Ku17.out)
  clear Ku17
  have Og18 := Lib.hid (Og17.out.below b Ogh17.out)
  have Ogh18 := Lib.hid (Nat.le_trans Ogh17.out b.size)
  clear Og17 Ogh17
  have Kg18 := Lib.hid (blk_below b Kg17.out)
  clear Kg17
  clear b
  obtain ⟨gk0, gk1, gk2, gk3, gk4, gk5, gk6, gk7⟩ := vec8 Kg18.out
  go_wp2_with fail
  with_reducible refine (MV.out _ _ _ _ Og18.out Ogh18.out).mono ?_
  rintro e w19 ⟨rfl, ho, t⟩
  try clear hzg
  clear gk0 gk1 gk2 gk3 gk4 gk5 gk6 gk7
  have Z19 := Lib.hid t.size
  have B19 := Lib.hid (B18.out.trans (t.below (Nat.le_trans (Nat.le_trans (Nat.le_trans (Nat.le_trans (Nat.le_trans (Nat.le_trans (Nat.le_trans Z1.out Z2.out) Z3.out) Z4.out) Z5.out) Z6.out) Z7.out) Z8.out) B18.out.size))
  have Ou19 := Lib.hid (Ou18.out.within t (.inl (Nat.le_trans (Nat.le_trans Z6.out Z7.out) Z8.out)) Ouh18.out)
  have Ouh19 := Lib.hid (Nat.le_trans Ouh18.out t.size)
  clear Ou18 Ouh18
  have Ku19 := Lib.hid (t.blk (.inl (Nat.lt_of_lt_of_le ZS6.out (Nat.le_trans Z7.out Z8.out))) Ku18.out)
  clear Ku18
  have Kg19 := Lib.hid (t.blk (.inr (Nat.le_refl _)) Kg18.out)
  clear Kg18
  have Og19 := Lib.hid ho
  have Ogh19 := Lib.hid (Nat.le_trans Ogh18.out t.size)
  clear Og18 Ogh18 ho
  clear t
  obtain ⟨gk0, gk1, gk2, gk3, gk4, gk5, gk6, gk7⟩ := vec8 Kg19.out
  go_wp2_with fail
  with_reducible refine (HV.out _ _ _ _ Og19.out Ogh19.out).mono ?_
  rintro e w20 ⟨rfl, b⟩
  try clear hzg
  clear gk0 gk1 gk2 gk3 gk4 gk5 gk6 gk7
  have Z20 := Lib.hid b.size
  have B20 := Lib.hid (below_then B19.out b)
  have Ou20 := Lib.hid (Ou19.out.below b Ouh19.out)
  have Ouh20 := Lib.hid (Nat.le_trans Ouh19.out b.size)
  clear Ou19 Ouh19
  have Ku20 := Lib.hid (blk_below b Ku19.out)
  clear Ku19
  have Og20 := Lib.hid (Og19.out.below b Ogh19.out)
  have Ogh20 := Lib.hid (Nat.le_trans Ogh19.out b.size)
  clear Og19 Ogh19
  have Kg20 := Lib.hid (blk_below b Kg19.out)
  clear Kg19
  clear b
  go_wp2_with fail
  with_reducible refine (TO0.out _ B20.out).mono ?_
  rintro e w21 ⟨xt0, rfl, ho, b⟩
  have Z21 := Lib.hid b.size
  have B21 := Lib.hid (below_then B20.out b)
  have Ou21 := Lib.hid (Ou20.out.below b Ouh20.out)
  have Ouh21 := Lib.hid (Nat.le_trans Ouh20.out b.size)
  clear Ou20 Ouh20
  have Ku21 := Lib.hid (blk_below b Ku20.out)
  clear Ku20
  have Og21 := Lib.hid (Og20.out.below b Ogh20.out)
  have Ogh21 := Lib.hid (Nat.le_trans Ogh20.out b.size)
  clear Og20 Ogh20
  have Kg21 := Lib.hid (blk_below b Kg20.out)
  clear Kg20
  clear b
  have At0_21 := Lib.hid (ho)
  have At0_h21 := Lib.hid ((Nat.le_refl _) : w21.heap.size ≤ w21.heap.size)
  clear ho
  go_wp2_with fail
  with_reducible refine (TO1.out _ B21.out).mono ?_
  rintro e w22 ⟨xt1, rfl, ho, b⟩
  have Z22 := Lib.hid b.size
  have B22 := Lib.hid (below_then B21.out b)
  have Ou22 := Lib.hid (Ou21.out.below b Ouh21.out)
  have Ouh22 := Lib.hid (Nat.le_trans Ouh21.out b.size)
  clear Ou21 Ouh21
  have Ku22 := Lib.hid (blk_below b Ku21.out)
  clear Ku21
  have Og22 := Lib.hid (Og21.out.below b Ogh21.out)
  have Ogh22 := Lib.hid (Nat.le_trans Ogh21.out b.size)
  clear Og21 Ogh21
  have Kg22 := Lib.hid (blk_below b Kg21.out)
  clear Kg21
  have At0_22 := Lib.hid (At0_21.out.below b At0_h21.out)
  have At0_h22 := Lib.hid (Nat.le_trans At0_h21.out b.size)
  clear At0_21 At0_h21
  clear b
  have At1_22 := Lib.hid (ho)
  have At1_h22 := Lib.hid ((Nat.le_refl _) : w22.heap.size ≤ w22.heap.size)
  clear ho
  go_wp2_with fail
  with_reducible refine (IM.out _ xt0 xt1 B22.out (At0_22.out.at_ At0_h22.out) (At1_22.out.at_ At1_h22.out)).mono ?_
  rintro e w23 ⟨y, rfl, ho, b⟩
  obtain ⟨hk, ha1, hn1, hm1, ha2, hn2, hm2, ha3, hn3, hm3, ha4, hn4, hm4, ha5, hn5, hm5, hc, he, rfl⟩ := ho.agg
  have Z23 := Lib.hid b.size
  have B23 := Lib.hid (below_then B22.out b)
  have Ou23 := Lib.hid (Ou22.out.below b Ouh22.out)
  have Ouh23 := Lib.hid (Nat.le_trans Ouh22.out b.size)
  clear Ou22 Ouh22
  have Ku23 := Lib.hid (blk_below b Ku22.out)
  clear Ku22
  have Og23 := Lib.hid (Og22.out.below b Ogh22.out)
  have Ogh23 := Lib.hid (Nat.le_trans Ogh22.out b.size)
  clear Og22 Ogh22
  have Kg23 := Lib.hid (blk_below b Kg22.out)
  clear Kg22
  have At0_23 := Lib.hid (At0_22.out.below b At0_h22.out)
  have At0_h23 := Lib.hid (Nat.le_trans At0_h22.out b.size)
  clear At0_22 At0_h22
  have At1_23 := Lib.hid (At1_22.out.below b At1_h22.out)
  have At1_h23 := Lib.hid (Nat.le_trans At1_h22.out b.size)
  clear At1_22 At1_h22
  clear b
  have Oh23 := Lib.hid (ho)
  have Ohh23 := Lib.hid ((Nat.le_refl _) : w23.heap.size ≤ w23.heap.size)
  clear ho
  clear At0_23 At0_h23
  clear At1_23 At1_h23
  obtain ⟨uk0, uk1, uk2, uk3, uk4, uk5, uk6, uk7⟩ := vec8 Ku23.out
  have hzu := (Array.getElem?_eq_some_iff.1 Ku23.out).1
  go_wp2_with fail
  obtain ⟨w24, hW⟩ : ∃ W, w23.alloc (.cells #[.int .i64 hk, .slice ha1 hn1 hm1, .slice ha2 hn2 hm2, .slice ha3 hn3 hm3, .slice ha4 hn4 hm4, .slice ha5 hn5 hm5, .int .i64 hc, .int .i64 he] 31) = W := ⟨_, rfl⟩
  have b : Below w23.heap.size w23 w24 := hW ▸ below1 w23 _
  have kb : w24.heap[w23.heap.size]? = some (.cells #[.int .i64 hk, .slice ha1 hn1 hm1, .slice ha2 hn2 hm2, .slice ha3 hn3 hm3, .slice ha4 hn4 hm4, .slice ha5 hn5 hm5, .int .i64 hc, .int .i64 he] 31 (0, 0)) := hW ▸ blk_new w23 _ rfl
  rw [hW]
  clear hW
  have Z24 := Lib.hid b.size
  have B24 := Lib.hid (below_then B23.out b)
  have Ou24 := Lib.hid (Ou23.out.below b Ouh23.out)
  have Ouh24 := Lib.hid (Nat.le_trans Ouh23.out b.size)
  clear Ou23 Ouh23
  have Ku24 := Lib.hid (blk_below b Ku23.out)
  clear Ku23
  have Og24 := Lib.hid (Og23.out.below b Ogh23.out)
  have Ogh24 := Lib.hid (Nat.le_trans Ogh23.out b.size)
  clear Og23 Ogh23
  have Kg24 := Lib.hid (blk_below b Kg23.out)
  clear Kg23
  have Oh24 := Lib.hid (Oh23.out.below b Ohh23.out)
  have Ohh24 := Lib.hid (Nat.le_trans Ohh23.out b.size)
  clear Oh23 Ohh23
  clear b
  have ZS24 := Lib.hid (Array.getElem?_eq_some_iff.1 kb).1
  have Kh24 := Lib.hid (kb)
  clear kb
  with_reducible refine (EQ.out _ _ _ (Oh24.out.vat Ohh24.out) (Ou24.out.vat Ouh24.out)).mono ?_
  rintro e w25 ⟨rfl, b⟩
  try clear hzu
  clear uk0 uk1 uk2 uk3 uk4 uk5 uk6 uk7
  have Z25 := Lib.hid b.size
  have B25 := Lib.hid (below_then B24.out b)
  have Ou25 := Lib.hid (Ou24.out.below b Ouh24.out)
  have Ouh25 := Lib.hid (Nat.le_trans Ouh24.out b.size)
  clear Ou24 Ouh24
  have Ku25 := Lib.hid (blk_below b Ku24.out)
  clear Ku24
  have Og25 := Lib.hid (Og24.out.below b Ogh24.out)
  have Ogh25 := Lib.hid (Nat.le_trans Ogh24.out b.size)
  clear Og24 Ogh24
  have Kg25 := Lib.hid (blk_below b Kg24.out)
  clear Kg24
  have Oh25 := Lib.hid (Oh24.out.below b Ohh24.out)
  have Ohh25 := Lib.hid (Nat.le_trans Ohh24.out b.size)
  clear Oh24 Ohh24
  have Kh25 := Lib.hid (blk_below b Kh24.out)
  clear Kh24
  clear b
  obtain ⟨gk0, gk1, gk2, gk3, gk4, gk5, gk6, gk7⟩ := vec8 Kg25.out
  go_wp2_with fail
  with_reducible refine (HV.out _ _ _ _ Og25.out Ogh25.out).mono ?_
  rintro e w26 ⟨rfl, b⟩
  try clear hzg
  clear gk0 gk1 gk2 gk3 gk4 gk5 gk6 gk7
  have Z26 := Lib.hid b.size
  have B26 := Lib.hid (below_then B25.out b)
  have Ou26 := Lib.hid (Ou25.out.below b Ouh25.out)
  have Ouh26 := Lib.hid (Nat.le_trans Ouh25.out b.size)
  clear Ou25 Ouh25
  have Ku26 := Lib.hid (blk_below b Ku25.out)
  clear Ku25
  have Og26 := Lib.hid (Og25.out.below b Ogh25.out)
  have Ogh26 := Lib.hid (Nat.le_trans Ogh25.out b.size)
  clear Og25 Ogh25
  have Kg26 := Lib.hid (blk_below b Kg25.out)
  clear Kg25
  have Oh26 := Lib.hid (Oh25.out.below b Ohh25.out)
  have Ohh26 := Lib.hid (Nat.le_trans Ohh25.out b.size)
  clear Oh25 Ohh25
  have Kh26 := Lib.hid (blk_below b Kh25.out)
  clear Kh25
  clear b
  go_wp2
  go_ret
  exact ⟨rfl, B26.out⟩

set_option maxRecDepth 100000 in
theorem contract (H : Type) (enc : TypeId × Value → H) (W : World) (base : Nat) (args : Array Value) (ds gs : List (DataW H)) (before : List MemPlace)
    (hval : ∀ (j : Nat) t v, Tryd.f4.params[j]? = some t → args[j]? = some v → Value.okWide Tryd.prog W .any base t v)
    (hW : DataW.Whole enc Tryd.prog Tryd.f4.params.toList Rows.fnExactCombineVectorsSpec.vars false W args.toList ds gs before) (hL : laidMetH Tryd.prog Rows.fnExactCombineVectorsRow.laid W) (hsh : W.ShapedOpen Tryd.prog) :
    Calls Tryd.prog 4 args W fun e W' => ∃ v, e = .returned v ∧ Rows.fnExactCombineVectorsSpec.post enc Tryd.prog Tryd.f4 false true false false W args v W' := by
  have hW' := hW
  obtain ⟨p, q, hA0, hV, rfl, hfz, hnd⟩ := hW
  have hA : DataW.TrodAll enc Tryd.prog W 0 (fun _ => true) true Tryd.f4.params.toList args.toList ds p := hA0
  rw [Tryd.params4] at hA hval
  obtain ⟨v0, vs0, d0, ds0, p0, q0, hargs0, rfl, rfl, h0, r0⟩ := trodAll_cons hA
  obtain ⟨v1, vs1, d1, ds1, p1, q1, hargs1, rfl, rfl, h1, r1⟩ := trodAll_cons r0
  obtain ⟨hnil, rfl, rfl⟩ := trodAll_nil r1
  have eargs : args.toList = [v0, v1] := by rw [hargs0, hargs1, hnil]
  obtain rfl : args = #[v0, v1] := Array.toList_inj.1 eargs
  obtain ⟨rfl, rfl⟩ := trodVars_none hV
  have k0 := h0
  have lt0 : ∀ x ∈ p0, x.block < W.heap.size := by obtain ⟨m, hm⟩ := k0; exact DataW.trod_lt m _ _ _ hm
  have k1 := h1
  have lt1 : ∀ x ∈ p1, x.block < W.heap.size := by obtain ⟨m, hm⟩ := k1; exact DataW.trod_lt m _ _ _ hm
  clear hA0 eargs hargs0 hargs1
  obtain ⟨d0, l0, a0, cap0, rfl, hv0, hn0, hf0⟩ := vecs_in (hval 0 23 v0 rfl rfl) h0
  obtain ⟨a1, n1, cap1, rfl⟩ := okWide_slice Tryd.underlying24 (hval 1 24 v1 rfl rfl)
  obtain ⟨f1, hs1, hn1, hf1⟩ : ∃ f : Nat → ByteArray, StrsAt W.heap.size W a1 n1 f ∧ n1 ≤ maxLen ∧ ∀ i, (f i).size ≤ maxLen := by
    obtain ⟨fuel, hf⟩ := h1
    exact strs_in hf
  have hl : laidMet Tryd.prog Rows.fnExactCombineVectorsRow.laid W := (MakeChecks.laidMetH_plain Tryd.prog Rows.fnExactCombineVectorsRow.laid W (by kernel_rfl)) ▸ hL
  refine (walk l0 a0 cap0 d0 a1 n1 cap1 f1 W hv0 hn0 hf0 hs1 hn1 hf1 (powOf hl) hsh).mono fun e W' ⟨he, bel⟩ => ?_
  subst he
  have kp0 := Below.trod laidOut (show Tryd.prog.readableRec 23 = true by kernel_rfl) (of_decide_eq_true (by kernel_rfl)) k0 bel lt0
  have kp1 := Below.trod laidOut (show Tryd.prog.readableRec 24 = true by kernel_rfl) (of_decide_eq_true (by kernel_rfl)) k1 bel lt1
  exact ⟨_, rfl, _, _, _, [], _, [], hW', trodAll_mk1 (shut_bool Tryd.underlying4 _), (trodAll_cons_mk kp0 (trodAll_cons_mk kp1 trodAll_mk0)), rfl, bel.frame _, fun h => by cases h⟩

/-- The heap that the program's own initialisers leave meets the list. -/
theorem door_met (os : Os) (args : Array Value) : laidMetH Tryd.prog Rows.fnExactCombineVectorsRow.laid ((World.doorLaid Tryd.prog 65 os).forCall (fun _ _ => 0) ⟨#[], args, []⟩).memory :=
  laidMetH_of_parts3 (fuel := 8) (laidMet_of_run' 8 (by kernel_rfl) (by kernel_rfl)) (by kernel_rfl) (by kernel_rfl)
theorem reads (os : Os) {H : Type} (enc : TypeId × Value → H) : ∃ places, DataW.whole enc Tryd.prog ((World.doorLaid Tryd.prog 65 os).forCall (fun _ _ => 0) ⟨#[], #[.slice none 0 0, .slice none 0 0], []⟩).memory Tryd.f4.params.toList Rows.fnExactCombineVectorsSpec.vars false #[.slice none 0 0, .slice none 0 0].toList 8 = some ([.nil, .nil], [], places) :=
  ⟨[], by kernel_rfl⟩

set_option maxRecDepth 100000 in
theorem lifted (os : Os) (started : os.Started) (H : Type) (enc : TypeId × Value → H) (F : Stop.Interp) :
    ReturnsInHanded {} Tryd.checked os 4 .any ((OpenSpec.ofChange Rows.fnExactCombineVectorsSpec).preRow enc Tryd.prog Tryd.f4 Rows.fnExactCombineVectorsRow.domain false Rows.fnExactCombineVectorsRow.laid) (((OpenSpec.ofChange Rows.fnExactCombineVectorsSpec).at F).post enc Tryd.prog Tryd.f4 false true false false) := by
  obtain ⟨places, hx⟩ := reads os enc
  refine returnsInHanded_of_row (C := Tryd.checked) (s := OpenSpec.ofChange Rows.fnExactCombineVectorsSpec) own started (by kernel_rfl) Tryd.func4
    ⟨World.doorLaid Tryd.prog 65 os, fun _ _ => 0, ⟨#[], #[.slice none 0 0, .slice none 0 0], []⟩, rfl, World.shaped_of_RefB (by kernel_rfl) (by kernel_rfl), rfl, (Input.okWide_of_okWideB (by kernel_rfl)).2,
      OpenSpec.preRow_of_cond 8 hx (by kernel_rfl) (fun k hk => by cases hk) (by kernel_rfl) (door_met os _), by simp [Assume.holds]⟩ ?_
  intro W base args ds gs before hval hW _ _ _ hL hsh _
  exact contract H enc W base args ds gs before hval hW hL hsh

theorem said : Rows.FnExactCombineVectorsSaid :=
  OpenClaim.holds_of_cond 4 Tryd.f4 rfl rfl rfl rfl rfl rfl rfl ⟨rfl, rfl, rfl, rfl, rfl⟩ rfl rfl rfl rfl rfl (by kernel_rfl) Tryd.func4 (by kernel_rfl)
    (of_decide_eq_true (by kernel_rfl)) (by unfold Func.isWrapper; first | (rw [if_pos (by decide +kernel)]; kernel_rfl) | (rw [if_neg (by decide +kernel)]; exact ⟨rfl, rfl⟩))
    (fun os started H enc _ F => by rw [OpenClaim.pre_eq_preRow]; exact lifted os started H enc F)

theorem plain (f : FuncId) (fn : Func) (hf : Tryd.pinned.checked.prog.funcNamed "loop.example/g03406/laws.FnExactCombineVectors" = some f) (hfn : Tryd.pinned.checked.prog.funcs[f]? = some fn) :
    false = Tryd.pinned.checked.prog.looks [] ∧ ∀ (j : Nat) t, fn.params[j]? = some t → Tryd.pinned.checked.prog.wantsStandIn t = false := by
  obtain rfl : f = 4 := Option.some.inj ((show Tryd.prog.funcNamed "loop.example/g03406/laws.FnExactCombineVectors" = some 4 by kernel_rfl).symm.trans hf) |>.symm
  obtain rfl : fn = Tryd.f4 := (Option.some.inj (Tryd.func4.symm.trans hfn)).symm
  refine ⟨by kernel_rfl, fun j t ht => ?_⟩
  rw [Tryd.params4] at ht
  have hm := Array.mem_of_getElem? ht
  simp at hm
  rcases hm with rfl | rfl
  · exact (show Tryd.prog.wantsStandIn 23 = false by kernel_rfl)
  · exact (show Tryd.prog.wantsStandIn 24 = false by kernel_rfl)

theorem card : Rows.FnExactCombineVectorsCardSaid :=
  Claim7.holds_tied_plain_at .later [] _ _ _ _ said (fun _ h => by cases h) (by kernel_rfl) (fun _ h => by cases h) fnExactCombineVectors_row_tie rfl ⟨rfl, rfl⟩ (by kernel_rfl) rfl plain (by kernel_rfl)
end Go.Proofs.YtddebgmjolojeaaDoor.fnExactCombineVectors
