/- Called with any arguments (vectors, lists of strings), the law FnExactMakeFactorWith returns true and leaves everything as it was. Condition: the listed package-level variables read as the program's own initialisers lay them (the card ties them). -/
import Derived.Test.YtddebgmjolojeaaGreatDoorRows
import Derived.Test.YtddebgmjolojeaaGreatDoorCards
import Derived.Test.YtddebgmjolojeaaGreatDoorTie
import Derived.Test.YtddebgmjolojeaaGreatDoorMf1
import Derived.Test.YtddebgmjolojeaaGreatDoorMf3
import Derived.Test.YtddebgmjolojeaaGreatDoorMf4
import Derived.Test.YtddebgmjolojeaaGreatDoorMf2
import Derived.WalkKit
import Derived.ProofKit
import Derived.OpenShut
import Derived.ShutString
import Derived.ChangeOld
import Derived.Carry
import Derived.Below
import Derived.LaidMore
import Derived.Deep.DeepHandedRow
import Derived.Stop.Joined
import Derived.SevenTiedAt
namespace Go.Proofs.YtddebgmjolojeaaGreatDoor.fnExactMakeFactorWith
open Go.ChangeShapes Go.WideShapes Go.ChangeAt Go.RowKit
open Go.ChangeMaps (open_string shut_string)
set_option linter.unusedVariables false

theorem laidOut : laidOutB Tryz.prog = true := by kernel_rfl
theorem own : ownKnob Tryz.prog.godebug = none := by kernel_rfl

theorem pkL_mem {α : Type} {z : α} {l : List α} {idx : List Nat} {x : α} (h : x ∈ pkL z l idx) : x = z ∨ x ∈ l := by
  cases l with
  | nil => cases h
  | cons y l =>
    have h' : x ∈ idx.map (fun i => (y :: l).getD i z) := h
    obtain ⟨i, _, e⟩ := List.mem_map.1 h'
    rw [List.getD_eq_getElem?_getD] at e
    cases q : (y :: l)[i]? with
    | none => rw [q] at e; exact .inl e.symm
    | some u => rw [q] at e; obtain rfl : u = x := e; exact .inr (List.mem_of_getElem? q)
theorem kpC_len (levels cls : List ByteArray) : (kpC levels cls).length ≤ cls.length := by
  cases levels with
  | nil => exact Nat.zero_le _
  | cons x l => exact Nat.le_refl _
theorem kpC_mem {levels cls : List ByteArray} {s : ByteArray} (h : s ∈ kpC levels cls) : s ∈ cls := by
  cases levels with
  | nil => cases h
  | cons x l => exact h
/-- A vector of any depth that fits. -/
structure PlainD (d : Nat) (V : Vec) : Prop where
  small : Small d V
  fits : Fits d V
  cnt : 1 + cntM d V ≤ 8000000
theorem cnt_flat (d : Nat) (k : Int) (L : List It) (N C X : List ByteArray) (c e : Int) : cntM (d + 1) (.mk k L [] N C X c e) = 3 * L.length + N.length + C.length + X.length := by
  rw [cntM_eq]
  show 3 * L.length + sumN _ 0 + N.length + C.length + X.length = _
  simp [sumN]
theorem plain_noV (d : Nat) : PlainD (d + 1) noV := by
  refine ⟨?_, ?_, ?_⟩
  · show Small (d + 1) (.mk 0 [] [] [] [] [] 0 0)
    unfold Small
    exact ⟨Nat.zero_le _, Nat.zero_le _, Nat.zero_le _, Nat.zero_le _, Nat.zero_le _, (fun _ h => by cases h), (fun _ h => by cases h), (fun _ h => by cases h), (fun _ h => by cases h), (fun _ h => by cases h)⟩
  · show Fits (d + 1) (.mk 0 [] [] [] [] [] 0 0)
    unfold Fits
    exact ⟨⟨by decide, by decide⟩, ⟨by decide, by decide⟩, ⟨by decide, by decide⟩, Nat.zero_le _, Nat.zero_le _, Nat.zero_le _, Nat.zero_le _, Nat.zero_le _, (fun _ h => by cases h), (fun _ h => by cases h), (fun _ h => by cases h), (fun _ h => by cases h), (fun _ h => by cases h)⟩
  · show 1 + cntM (d + 1) (.mk 0 [] [] [] [] [] 0 0) ≤ 8000000
    rw [cnt_flat]; simp
theorem plain_sel {d : Nat} {kk : Int} {items : List It} {parts : List Vec} {names cls levels : List ByteArray} {code env : Int} {idx : List Nat} (hsm : Small (d + 1) (.mk kk items parts names cls levels code env)) (hf : Fits (d + 1) (.mk kk items parts names cls levels code env)) (hl : (pkL noI items idx).length ≤ 40) : PlainD (d + 1) (.mk kk (pkL noI items idx) [] [] (kpC levels cls) levels 0 0) := by
  obtain ⟨s1, s2, s3, s4, s5, s6, s7, s8, s9, s10⟩ := hsm
  obtain ⟨f1, f2, f3, f4, f5, f6, f7, f8, f9, f10, f11, f12, f13⟩ := hf
  have hc := kpC_len levels cls
  refine ⟨?_, ?_, ?_⟩
  · unfold Small
    refine ⟨by omega, Nat.zero_le _, Nat.zero_le _, by omega, s5, fun x hx => ?_, (fun _ h => by cases h), fun s hs => s8 s (kpC_mem hs), s9, (fun _ h => by cases h)⟩
    rcases pkL_mem hx with rfl | h
    · exact Nat.zero_le _
    · exact s6 x h
  · unfold Fits
    refine ⟨f1, ⟨by decide, by decide⟩, ⟨by decide, by decide⟩, by unfold maxLen; omega, Nat.zero_le _, Nat.zero_le _, by omega, f8, fun x hx => ?_, (fun _ h => by cases h), fun s hs => f11 s (kpC_mem hs), f12, (fun _ h => by cases h)⟩
    rcases pkL_mem hx with rfl | h
    · exact ⟨⟨by decide, by decide⟩, ⟨by decide, by decide⟩, Nat.zero_le _⟩
    · exact f9 x h
  · rw [cnt_flat]
    simp only [List.length_nil]
    omega
theorem fac_plain {lv : List ByteArray} {X : List It} {names : List ByteArray} (hX : X.length ≤ 1048576) (hn : names.length ≤ 1048576) (hs : ∀ s ∈ names, s.size ≤ 1048576) (hl : lv.length ≤ 1048576) (hls : ∀ s ∈ lv, s.size ≤ 1048576) : PlainD 1 (facR lv X names) := by
  refine ⟨small_fac hX hn hs hl hls, ?_, ?_⟩
  · show Fits 1 (.mk 2 (codL lv X) [] names [facB] lv 0 0)
    unfold Fits
    refine ⟨⟨by decide, by decide⟩, ⟨by decide, by decide⟩, ⟨by decide, by decide⟩, by rw [codL_len]; unfold maxLen; omega, Nat.zero_le _, by unfold maxLen; omega, (by decide : (1 : Nat) ≤ maxLen), by unfold maxLen; omega, fun x hx => ?_, fun s h => by have := hs s h; unfold maxLen; omega, fun s h => ?_, fun s h => by have := hls s h; unfold maxLen; omega, (fun _ h => by cases h)⟩
    · obtain ⟨i, hi, rfl⟩ := mem_itF hx
      rcases codI_in lv (X.getD i noI) with e | ⟨n, hn', e⟩ <;> rw [e]
      · exact ⟨by decide, by decide, Nat.zero_le _⟩
      · exact ⟨⟨by show (-9223372036854775808 : Int) ≤ (n : Int) + 1; omega, by show (n : Int) + 1 ≤ 9223372036854775807; omega⟩, ⟨by show (-9223372036854775808 : Int) ≤ 1; decide, by show (1 : Int) ≤ 9223372036854775807; decide⟩, Nat.zero_le _⟩
    · obtain rfl := List.mem_singleton.1 h; decide
  · show 1 + cntM 1 (.mk 2 (codL lv X) [] names [facB] lv 0 0) ≤ 8000000
    rw [cntM_eq]
    show 1 + (3 * (codL lv X).length + sumN _ 0 + names.length + 1 + lv.length) ≤ 8000000
    rw [codL_len]
    simp only [sumN]
    omega
theorem texts_of_strsF {B : Nat} {w : World} {a : Option Addr} {n : Nat} {f : Nat → ByteArray} (h : StrsAt B w a n f) : TextsAt 0 B w a ((List.range n).map f) := by
  intro i x hx
  rw [List.getElem?_map] at hx
  obtain ⟨k, hk, rfl⟩ := Option.map_eq_some_iff.1 hx
  obtain ⟨hlt, e⟩ := List.getElem?_eq_some_iff.1 hk
  have hlt' : i < n := by simpa using hlt
  obtain rfl : i = k := by simpa using e
  obtain ⟨b, off, e, h1, h2⟩ := h i hlt'
  exact ⟨b, off, e, Nat.zero_le _, h1, h2⟩
theorem rng_lenF (n : Nat) (f : Nat → ByteArray) : ((List.range n).map f).length = n := by simp
theorem mf_plain {d : Nat} {v : Vec} {lv : List ByteArray} (hsm : Small d v) (hl : lv.length ≤ 1048576) (hs : ∀ s ∈ lv, s.size ≤ 1048576) : PlainD 1 (mfV v lv) := by
  by_cases h : mfS v lv = ⟨#[]⟩
  · cases d with
    | zero => exact hsm.elim
    | succ d =>
      obtain ⟨kk, items, parts, names, cls, levels, code, env⟩ := v
      have e : mfV (.mk kk items parts names cls levels code env) lv = facR lv (txsL kk items levels) names := by unfold mfV; rw [bB_yes h]
      rw [e]
      have hX : (txsL kk items levels).length ≤ 1048576 := by rw [txsL_len]; exact hsm.1
      exact fac_plain hX hsm.2.2.1 hsm.2.2.2.2.2.2.1 hl hs
  · rw [mf_not h]; exact plain_noV 0

set_option maxHeartbeats 4000000 in
set_option maxRecDepth 100000 in
theorem walk (x0 : Vec) (d0 : Nat) (y0 : Value) (a1 : Option Addr) (n1 cap1 : Nat) (f1 : Nat → ByteArray) (w : World) (hv0 : VecAt 0 w.heap.size w d0 x0 y0) (hf0 : Fits d0 x0) (hs1 : StrsAt w.heap.size w a1 n1 f1) (hn1 : n1 ≤ maxLen) (hf1 : ∀ i, (f1 i).size ≤ maxLen) (tab : Lib.TabIs Tryz.prog w "internal/strconv.uint64pow10" .u64 Lib.pow10Tab) (hsh : w.ShapedOpen Tryz.prog) :
    Calls Tryz.prog 3 #[y0, .slice a1 n1 cap1] w fun e w' => e = .returned (.bool true) ∧ Below w.heap.size w w' := by
  have SZ0 := Lib.hid (fun (w1 : World) (hb : Below w.heap.size w w1) => (szAll d0).out x0 y0 1048576 0 w.heap.size w1 (hv0.below hb (Nat.le_refl _)) hb.size hf0 (by omega) (by omega))
  have S1 := Lib.hid hs1
  have hm1 : n1 ≤ 9223372036854775807 := hn1
  obtain ⟨W1, hW1⟩ : ∃ W1, n1 + sumF f1 n1 = W1 := ⟨_, rfl⟩
  obtain ⟨W0, hW0⟩ : ∃ W0, wV d0 x0 = W0 := ⟨_, rfl⟩
  rw [hW0] at SZ0
  clear hs1
  by_cases hbig : 1048576 < W0
  · rw [szL_no (show (1048576 : Int) < (W0 : Int) by omega)] at SZ0
    clear hbig hW0 hW1 tab hsh
    obtain ⟨p0k, p0a1, p0n1, p0m1, p0a2, p0n2, p0m2, p0a3, p0n3, p0m3, p0a4, p0n4, p0m4, p0a5, p0n5, p0m5, p0c, p0e, rfl⟩ := hv0.agg
    clear hv0 hf0
    go_enter Tryz.func3, Tryz.ntmps3
    go_wp2_with fail
    with_reducible refine (SZ0.out _ (below1 w _)).mono ?_
    rintro e w1 ⟨rfl, b⟩
    have B1 := Lib.hid (below_then (below1 w _) b)
    clear b
    go_wp2
    go_ret
    exact ⟨rfl, B1.out⟩
  rw [szL_yes (show (W0 : Int) ≤ 1048576 by omega)] at SZ0
  have SZ1 := Lib.hid (fun (w1 : World) (hb : Below w.heap.size w w1) => ((szStrs a1 n1 cap1 (1048576 - (W0 : Int)) f1 w.heap.size w1 (S1.out.below hb) hm1 (by omega) (by omega) (fun i _ => hf1 i)).mono (fun e w' h => by rw [szR_L, hW1] at h; exact ⟨h.1, h.2 ▸ Below.refl _ _⟩) :
    Calls Tryz.prog 6 #[.slice a1 n1 cap1, .int .i64 (1048576 - (W0 : Int))] w1 (fun e w' => e = .returned (.int .i64 (szL (1048576 - (W0 : Int)) W1)) ∧ Below w1.heap.size w1 w')))
  by_cases hbig2 : 1048576 < W0 + W1
  · rw [szL_no (show (1048576 - (W0 : Int)) < (W1 : Int) by omega)] at SZ1
    have h0 : ¬ (1048576 - (W0 : Int)) < 0 := by omega
    clear hbig2 hW0 hW1 tab hsh
    obtain ⟨p0k, p0a1, p0n1, p0m1, p0a2, p0n2, p0m2, p0a3, p0n3, p0m3, p0a4, p0n4, p0m4, p0a5, p0n5, p0m5, p0c, p0e, rfl⟩ := hv0.agg
    clear hv0 hf0
    go_enter Tryz.func3, Tryz.ntmps3
    go_wp2_with fail
    with_reducible refine (SZ0.out _ (below1 w _)).mono ?_
    rintro e w1 ⟨rfl, b⟩
    have B1 := Lib.hid (below_then (below1 w _) b)
    clear b
    go_wp2_with fail
    with_reducible refine (SZ1.out _ B1.out).mono ?_
    rintro e w2 ⟨rfl, b⟩
    have B2 := Lib.hid (below_then B1.out b)
    clear b
    go_wp2
    go_ret
    exact ⟨rfl, B2.out⟩
  rw [szL_yes (show (W1 : Int) ≤ 1048576 - (W0 : Int) by omega)] at SZ1
  have hsm := small_of d0 x0 hf0 (by omega)
  have hcm := cntM_le d0 x0
  have hn1' : n1 ≤ 1048576 := by omega
  have hls : ((List.range n1).map f1).length ≤ 1048576 := by rw [rng_lenF]; exact hn1'
  have hss : ∀ s ∈ ((List.range n1).map f1), s.size ≤ 1048576 := fun s hs => by
    obtain ⟨i, hi, rfl⟩ := List.mem_map.1 hs
    have := sumF_at f1 (List.mem_range.1 hi)
    omega
  have TO0 := Lib.hid (fun (w1 : World) (hb : Below w.heap.size w w1) => toVecR d0 x0 y0 0 w.heap.size w1 (hv0.below hb (Nat.le_refl _)) hb.size hsm)
  have TO1 := Lib.hid (fun (w1 : World) (hb : Below w.heap.size w w1) => toStrsR a1 n1 cap1 f1 w.heap.size w1 (S1.out.below hb) hb.size hn1')
  have QX0 := Lib.hid (fun (w1 : World) (x y : Value) (h : VecAt 0 w1.heap.size w1 d0 x0 x) (k : VecAt 0 w1.heap.size w1 d0 x0 y) => (eqAll d0).out x0 x y 0 w1.heap.size 0 w1.heap.size w1 h (Nat.le_refl _) k (Nat.le_refl _) hf0)
  have QE1 := Lib.hid (fun (w1 : World) (x y : Option Addr) (hx : StrsAt w1.heap.size w1 x n1 f1) (hy : StrsAt w1.heap.size w1 y n1 f1) => eqStrsR x y n1 n1 n1 f1 w1.heap.size w1 hx hy hn1')
  have MX0 := Lib.hid (fun (w1 : World) (y : Value) (lo hi : Nat) (h : Own d0 x0 y lo hi w1) (hh : hi ≤ w1.heap.size) => markOwnX d0 x0 y lo hi w1 h hh hsm (by omega))
  have MK1 := Lib.hid (fun (w1 : World) (x : Option Addr) (lo hi : Nat) (h : OwnS x n1 f1 lo hi w1) (_ : hi ≤ w1.heap.size) => (by
    have h := markStrsR x n1 n1 (1 + cntM d0 x0) f1 lo hi w1 h hn1' (by omega) (by omega)
    rw [show (((1 + cntM d0 x0 : Nat) : Int) + (n1 : Int)) = ((1 + cntM d0 x0 + n1 : Nat) : Int) by omega] at h
    exact h : Calls Tryz.prog 14 #[.slice x n1 n1, .int .i64 ((1 + cntM d0 x0 : Nat) : Int)] w1 (fun e w' => e = .returned (.int .i64 ((1 + cntM d0 x0 + n1 : Nat) : Int)) ∧ Within lo hi w1 w')))
  have SP := Lib.hid (fun (w1 : World) (y : Value) (x : Option Addr) (hy : VecAt 0 w1.heap.size w1 d0 x0 y) (hx : StrsAt w1.heap.size w1 x n1 f1) => (by
    have h := specMakeFactorWith d0 x0 ((List.range n1).map f1) y x n1 0 w1.heap.size w1 hy (texts_of_strsF hx) (Nat.le_refl _) hsm hls hss
    rw [rng_lenF] at h
    exact h : Calls Tryz.prog 7 #[y, .slice x n1 n1] w1 (ResVS 1 (mfV x0 ((List.range n1).map f1)) (mfS x0 ((List.range n1).map f1)) w1)))
  have IM := Lib.hid (fun (w1 : World) (y : Value) (x : Option Addr) (hy : VecAt 0 w1.heap.size w1 d0 x0 y) (hx : StrsAt w1.heap.size w1 x n1 f1) (hb : Below w.heap.size w w1) => (by
    have h := implMakeFactorWith d0 x0 ((List.range n1).map f1) y x n1 0 w1.heap.size w1 hy (texts_of_strsF hx) (Nat.le_refl _) hsm (by rw [rng_lenF]; exact Nat.le_refl _) hls hss (tab_below tab hb)
    rw [rng_lenF] at h
    exact h : Calls Tryz.prog 10 #[y, .slice x n1 n1] w1 (ResVS 1 (mfV x0 ((List.range n1).map f1)) (mfS x0 ((List.range n1).map f1)) w1)))
  have PV := mf_plain (lv := ((List.range n1).map f1)) hsm hls hss
  have HS0 := PV.small
  have HF0 := PV.fits
  have HC0 := PV.cnt
  obtain ⟨V, hV⟩ : ∃ V, mfV x0 ((List.range n1).map f1) = V := ⟨_, rfl⟩
  obtain ⟨s, hs⟩ : ∃ s, mfS x0 ((List.range n1).map f1) = s := ⟨_, rfl⟩
  rw [hV] at SP IM HS0 HF0 HC0
  rw [hs] at SP IM
  clear hV hs PV hsm hcm tab hsh hls hss
  obtain ⟨c0, hc0⟩ : ∃ c, 1 + cntM d0 x0 = c := ⟨_, rfl⟩
  rw [hc0] at MX0 MK1
  obtain ⟨c1, hc1⟩ : ∃ c, c0 + n1 = c := ⟨_, rfl⟩
  rw [hc1] at MK1
  clear hc0 hc1 hW0 hW1
  have SMV := Lib.hid (HS0)
  have FTV := Lib.hid (HF0)
  have CMV := Lib.hid (HC0)
  have EQ := Lib.hid (fun (w1 : World) (x y : Value) (h : VecAt 0 w1.heap.size w1 1 V x) (k : VecAt 0 w1.heap.size w1 1 V y) => (eqAll 1).out V x y 0 w1.heap.size 0 w1.heap.size w1 h (Nat.le_refl _) k (Nat.le_refl _) FTV.out)
  have MV := Lib.hid (fun (w1 : World) (y : Value) (lo hi : Nat) (h : Own 1 V y lo hi w1) (hh : hi ≤ w1.heap.size) => markOwn 1 V y lo hi w1 h hh SMV.out CMV.out)
  have HV := Lib.hid (fun (w1 : World) (y : Value) (lo hi : Nat) (h : Own 1 (markV 1 1 V) y lo hi w1) (hh : hi ≤ w1.heap.size) => heldOwn 1 V y lo hi w1 h hh SMV.out CMV.out)
  clear SMV FTV CMV
  obtain ⟨cm, hcm'⟩ : ∃ c, 1 + cntM 1 V = c := ⟨_, rfl⟩
  rw [hcm'] at MV HV
  clear hcm'
  clear HS0 HF0 HC0 hf0
  have h00 : ¬ (1048576 - (W0 : Int)) < 0 := by omega
  have h01 : ¬ (1048576 - (W0 : Int) - (W1 : Int)) < 0 := by omega
  obtain ⟨p0k, p0a1, p0n1, p0m1, p0a2, p0n2, p0m2, p0a3, p0n3, p0m3, p0a4, p0n4, p0m4, p0a5, p0n5, p0m5, p0c, p0e, rfl⟩ := hv0.agg
  clear hv0
  go_enter Tryz.func3, Tryz.ntmps3
  go_wp2_with fail
  obtain ⟨w1, hW⟩ : ∃ W, w.alloc (.cells #[.int .i64 p0k, .slice p0a1 p0n1 p0m1, .slice p0a2 p0n2 p0m2, .slice p0a3 p0n3 p0m3, .slice p0a4 p0n4 p0m4, .slice p0a5 p0n5 p0m5, .int .i64 p0c, .int .i64 p0e] 26) = W := ⟨_, rfl⟩
  have b : Below w.heap.size w w1 := hW ▸ below1 w _
  have kb : w1.heap[w.heap.size]? = some (.cells #[.int .i64 p0k, .slice p0a1 p0n1 p0m1, .slice p0a2 p0n2 p0m2, .slice p0a3 p0n3 p0m3, .slice p0a4 p0n4 p0m4, .slice p0a5 p0n5 p0m5, .int .i64 p0c, .int .i64 p0e] 26 (0, 0)) := hW ▸ blk_new w _ rfl
  rw [hW]
  clear hW
  have Z1 := Lib.hid b.size
  have B1 := Lib.hid (below_then (Below.refl _ _) b)
  clear b
  have ZS1 := Lib.hid (Array.getElem?_eq_some_iff.1 kb).1
  have Kp01 := Lib.hid (kb)
  clear kb
  with_reducible refine (SZ0.out _ B1.out).mono ?_
  rintro e w2 ⟨rfl, b⟩
  have Z2 := Lib.hid b.size
  have B2 := Lib.hid (below_then B1.out b)
  have Kp02 := Lib.hid (blk_below b Kp01.out)
  clear Kp01
  clear b
  go_wp2_with fail
  with_reducible refine (SZ1.out _ B2.out).mono ?_
  rintro e w3 ⟨rfl, b⟩
  have Z3 := Lib.hid b.size
  have B3 := Lib.hid (below_then B2.out b)
  have Kp03 := Lib.hid (blk_below b Kp02.out)
  clear Kp02
  clear b
  obtain ⟨p0k0, p0k1, p0k2, p0k3, p0k4, p0k5, p0k6, p0k7⟩ := vec8 Kp03.out
  go_wp2_with fail
  with_reducible refine (TO0.out _ B3.out).mono ?_
  rintro e w4 ⟨y, rfl, ho, b⟩
  obtain ⟨s0k, s0a1, s0n1, s0m1, s0a2, s0n2, s0m2, s0a3, s0n3, s0m3, s0a4, s0n4, s0m4, s0a5, s0n5, s0m5, s0c, s0e, rfl⟩ := ho.agg
  try clear hzp0
  clear p0k0 p0k1 p0k2 p0k3 p0k4 p0k5 p0k6 p0k7
  have Z4 := Lib.hid b.size
  have B4 := Lib.hid (below_then B3.out b)
  have Kp04 := Lib.hid (blk_below b Kp03.out)
  clear Kp03
  clear b
  have Os04 := Lib.hid (ho)
  have Os0h4 := Lib.hid ((Nat.le_refl _) : w4.heap.size ≤ w4.heap.size)
  clear ho
  go_wp2_with fail
  with_reducible refine (TO1.out _ B4.out).mono ?_
  rintro e w5 ⟨xs1, rfl, ho, b⟩
  have Z5 := Lib.hid b.size
  have B5 := Lib.hid (below_then B4.out b)
  have Kp05 := Lib.hid (blk_below b Kp04.out)
  clear Kp04
  have Os05 := Lib.hid (Os04.out.below b Os0h4.out)
  have Os0h5 := Lib.hid (Nat.le_trans Os0h4.out b.size)
  clear Os04 Os0h4
  clear b
  have As1_5 := Lib.hid (ho)
  have As1_h5 := Lib.hid ((Nat.le_refl _) : w5.heap.size ≤ w5.heap.size)
  clear ho
  go_wp2_with fail
  with_reducible refine (SP.out _ _ xs1 (Os05.out.vat Os0h5.out) (As1_5.out.at_ As1_h5.out)).mono ?_
  rintro e w6 ⟨y, rfl, ho, b⟩
  obtain ⟨uk, ua1, un1, um1, ua2, un2, um2, ua3, un3, um3, ua4, un4, um4, ua5, un5, um5, uc, ue, rfl⟩ := ho.agg
  have Z6 := Lib.hid b.size
  have B6 := Lib.hid (below_then B5.out b)
  have Kp06 := Lib.hid (blk_below b Kp05.out)
  clear Kp05
  have Os06 := Lib.hid (Os05.out.below b Os0h5.out)
  have Os0h6 := Lib.hid (Nat.le_trans Os0h5.out b.size)
  clear Os05 Os0h5
  have As1_6 := Lib.hid (As1_5.out.below b As1_h5.out)
  have As1_h6 := Lib.hid (Nat.le_trans As1_h5.out b.size)
  clear As1_5 As1_h5
  clear b
  have Ou6 := Lib.hid (ho)
  have Ouh6 := Lib.hid ((Nat.le_refl _) : w6.heap.size ≤ w6.heap.size)
  clear ho
  clear Os06 Os0h6
  clear As1_6 As1_h6
  obtain ⟨p0k0, p0k1, p0k2, p0k3, p0k4, p0k5, p0k6, p0k7⟩ := vec8 Kp06.out
  have hzp0 := (Array.getElem?_eq_some_iff.1 Kp06.out).1
  go_wp2_with fail
  obtain ⟨w7, hW⟩ : ∃ W, w6.alloc (.cells #[.int .i64 uk, .slice ua1 un1 um1, .slice ua2 un2 um2, .slice ua3 un3 um3, .slice ua4 un4 um4, .slice ua5 un5 um5, .int .i64 uc, .int .i64 ue] 32) = W := ⟨_, rfl⟩
  have b : Below w6.heap.size w6 w7 := hW ▸ below1 w6 _
  have kb : w7.heap[w6.heap.size]? = some (.cells #[.int .i64 uk, .slice ua1 un1 um1, .slice ua2 un2 um2, .slice ua3 un3 um3, .slice ua4 un4 um4, .slice ua5 un5 um5, .int .i64 uc, .int .i64 ue] 32 (0, 0)) := hW ▸ blk_new w6 _ rfl
  rw [hW]
  clear hW
  have Z7 := Lib.hid b.size
  have B7 := Lib.hid (below_then B6.out b)
  have Kp07 := Lib.hid (blk_below b Kp06.out)
  clear Kp06
  have Ou7 := Lib.hid (Ou6.out.below b Ouh6.out)
  have Ouh7 := Lib.hid (Nat.le_trans Ouh6.out b.size)
  clear Ou6 Ouh6
  clear b
  have ZS7 := Lib.hid (Array.getElem?_eq_some_iff.1 kb).1
  have Ku7 := Lib.hid (kb)
  clear kb
  with_reducible refine (TO0.out _ B7.out).mono ?_
  rintro e w8 ⟨y, rfl, ho, b⟩
  obtain ⟨x0k, x0a1, x0n1, x0m1, x0a2, x0n2, x0m2, x0a3, x0n3, x0m3, x0a4, x0n4, x0m4, x0a5, x0n5, x0m5, x0c, x0e, rfl⟩ := ho.agg
  try clear hzp0
  clear p0k0 p0k1 p0k2 p0k3 p0k4 p0k5 p0k6 p0k7
  have Z8 := Lib.hid b.size
  have B8 := Lib.hid (below_then B7.out b)
  have Kp08 := Lib.hid (blk_below b Kp07.out)
  clear Kp07
  have Ou8 := Lib.hid (Ou7.out.below b Ouh7.out)
  have Ouh8 := Lib.hid (Nat.le_trans Ouh7.out b.size)
  clear Ou7 Ouh7
  have Ku8 := Lib.hid (blk_below b Ku7.out)
  clear Ku7
  clear b
  have Ox08 := Lib.hid (ho)
  have Ox0h8 := Lib.hid ((Nat.le_refl _) : w8.heap.size ≤ w8.heap.size)
  clear ho
  go_wp2_with fail
  obtain ⟨w9, hW⟩ : ∃ W, w8.alloc (.cells #[.int .i64 x0k, .slice x0a1 x0n1 x0m1, .slice x0a2 x0n2 x0m2, .slice x0a3 x0n3 x0m3, .slice x0a4 x0n4 x0m4, .slice x0a5 x0n5 x0m5, .int .i64 x0c, .int .i64 x0e] 32) = W := ⟨_, rfl⟩
  have b : Below w8.heap.size w8 w9 := hW ▸ below1 w8 _
  have kb : w9.heap[w8.heap.size]? = some (.cells #[.int .i64 x0k, .slice x0a1 x0n1 x0m1, .slice x0a2 x0n2 x0m2, .slice x0a3 x0n3 x0m3, .slice x0a4 x0n4 x0m4, .slice x0a5 x0n5 x0m5, .int .i64 x0c, .int .i64 x0e] 32 (0, 0)) := hW ▸ blk_new w8 _ rfl
  rw [hW]
  clear hW
  have Z9 := Lib.hid b.size
  have B9 := Lib.hid (below_then B8.out b)
  have Kp09 := Lib.hid (blk_below b Kp08.out)
  clear Kp08
  have Ou9 := Lib.hid (Ou8.out.below b Ouh8.out)
  have Ouh9 := Lib.hid (Nat.le_trans Ouh8.out b.size)
  clear Ou8 Ouh8
  have Ku9 := Lib.hid (blk_below b Ku8.out)
  clear Ku8
  have Ox09 := Lib.hid (Ox08.out.below b Ox0h8.out)
  have Ox0h9 := Lib.hid (Nat.le_trans Ox0h8.out b.size)
  clear Ox08 Ox0h8
  clear b
  have ZS9 := Lib.hid (Array.getElem?_eq_some_iff.1 kb).1
  have Kx09 := Lib.hid (kb)
  clear kb
  with_reducible refine (TO1.out _ B9.out).mono ?_
  rintro e w10 ⟨xx1, rfl, ho, b⟩
  have Z10 := Lib.hid b.size
  have B10 := Lib.hid (below_then B9.out b)
  have Kp010 := Lib.hid (blk_below b Kp09.out)
  clear Kp09
  have Ou10 := Lib.hid (Ou9.out.below b Ouh9.out)
  have Ouh10 := Lib.hid (Nat.le_trans Ouh9.out b.size)
  clear Ou9 Ouh9
  have Ku10 := Lib.hid (blk_below b Ku9.out)
  clear Ku9
  have Ox010 := Lib.hid (Ox09.out.below b Ox0h9.out)
  have Ox0h10 := Lib.hid (Nat.le_trans Ox0h9.out b.size)
  clear Ox09 Ox0h9
  have Kx010 := Lib.hid (blk_below b Kx09.out)
  clear Kx09
  clear b
  have Ax1_10 := Lib.hid (ho)
  have Ax1_h10 := Lib.hid ((Nat.le_refl _) : w10.heap.size ≤ w10.heap.size)
  clear ho
  obtain ⟨x0k0, x0k1, x0k2, x0k3, x0k4, x0k5, x0k6, x0k7⟩ := vec8 Kx010.out
  go_wp2_with fail
  with_reducible refine (IM.out _ _ xx1 (Ox010.out.vat Ox0h10.out) (Ax1_10.out.at_ Ax1_h10.out) B10.out).mono ?_
  rintro e w11 ⟨y, rfl, ho, b⟩
  try clear hzx0
  clear x0k0 x0k1 x0k2 x0k3 x0k4 x0k5 x0k6 x0k7
  obtain ⟨gk, ga1, gn1, gm1, ga2, gn2, gm2, ga3, gn3, gm3, ga4, gn4, gm4, ga5, gn5, gm5, gc, ge, rfl⟩ := ho.agg
  have Z11 := Lib.hid b.size
  have B11 := Lib.hid (below_then B10.out b)
  have Kp011 := Lib.hid (blk_below b Kp010.out)
  clear Kp010
  have Ou11 := Lib.hid (Ou10.out.below b Ouh10.out)
  have Ouh11 := Lib.hid (Nat.le_trans Ouh10.out b.size)
  clear Ou10 Ouh10
  have Ku11 := Lib.hid (blk_below b Ku10.out)
  clear Ku10
  have Ox011 := Lib.hid (Ox010.out.below b Ox0h10.out)
  have Ox0h11 := Lib.hid (Nat.le_trans Ox0h10.out b.size)
  clear Ox010 Ox0h10
  have Kx011 := Lib.hid (blk_below b Kx010.out)
  clear Kx010
  have Ax1_11 := Lib.hid (Ax1_10.out.below b Ax1_h10.out)
  have Ax1_h11 := Lib.hid (Nat.le_trans Ax1_h10.out b.size)
  clear Ax1_10 Ax1_h10
  clear b
  have Og11 := Lib.hid (ho)
  have Ogh11 := Lib.hid ((Nat.le_refl _) : w11.heap.size ≤ w11.heap.size)
  clear ho
  obtain ⟨uk0, uk1, uk2, uk3, uk4, uk5, uk6, uk7⟩ := vec8 Ku11.out
  have hzu := (Array.getElem?_eq_some_iff.1 Ku11.out).1
  go_wp2_with fail
  obtain ⟨w12, hW⟩ : ∃ W, w11.alloc (.cells #[.int .i64 gk, .slice ga1 gn1 gm1, .slice ga2 gn2 gm2, .slice ga3 gn3 gm3, .slice ga4 gn4 gm4, .slice ga5 gn5 gm5, .int .i64 gc, .int .i64 ge] 32) = W := ⟨_, rfl⟩
  have b : Below w11.heap.size w11 w12 := hW ▸ below1 w11 _
  have kb : w12.heap[w11.heap.size]? = some (.cells #[.int .i64 gk, .slice ga1 gn1 gm1, .slice ga2 gn2 gm2, .slice ga3 gn3 gm3, .slice ga4 gn4 gm4, .slice ga5 gn5 gm5, .int .i64 gc, .int .i64 ge] 32 (0, 0)) := hW ▸ blk_new w11 _ rfl
  rw [hW]
  clear hW
  have Z12 := Lib.hid b.size
  have B12 := Lib.hid (below_then B11.out b)
  have Kp012 := Lib.hid (blk_below b Kp011.out)
  clear Kp011
  have Ou12 := Lib.hid (Ou11.out.below b Ouh11.out)
  have Ouh12 := Lib.hid (Nat.le_trans Ouh11.out b.size)
  clear Ou11 Ouh11
  have Ku12 := Lib.hid (blk_below b Ku11.out)
  clear Ku11
  have Ox012 := Lib.hid (Ox011.out.below b Ox0h11.out)
  have Ox0h12 := Lib.hid (Nat.le_trans Ox0h11.out b.size)
  clear Ox011 Ox0h11
  have Kx012 := Lib.hid (blk_below b Kx011.out)
  clear Kx011
  have Ax1_12 := Lib.hid (Ax1_11.out.below b Ax1_h11.out)
  have Ax1_h12 := Lib.hid (Nat.le_trans Ax1_h11.out b.size)
  clear Ax1_11 Ax1_h11
  have Og12 := Lib.hid (Og11.out.below b Ogh11.out)
  have Ogh12 := Lib.hid (Nat.le_trans Ogh11.out b.size)
  clear Og11 Ogh11
  clear b
  have ZS12 := Lib.hid (Array.getElem?_eq_some_iff.1 kb).1
  have Kg12 := Lib.hid (kb)
  clear kb
  with_reducible refine (EQ.out _ _ _ (Og12.out.vat Ogh12.out) (Ou12.out.vat Ouh12.out)).mono ?_
  rintro e w13 ⟨rfl, b⟩
  try clear hzu
  clear uk0 uk1 uk2 uk3 uk4 uk5 uk6 uk7
  have Z13 := Lib.hid b.size
  have B13 := Lib.hid (below_then B12.out b)
  have Kp013 := Lib.hid (blk_below b Kp012.out)
  clear Kp012
  have Ou13 := Lib.hid (Ou12.out.below b Ouh12.out)
  have Ouh13 := Lib.hid (Nat.le_trans Ouh12.out b.size)
  clear Ou12 Ouh12
  have Ku13 := Lib.hid (blk_below b Ku12.out)
  clear Ku12
  have Ox013 := Lib.hid (Ox012.out.below b Ox0h12.out)
  have Ox0h13 := Lib.hid (Nat.le_trans Ox0h12.out b.size)
  clear Ox012 Ox0h12
  have Kx013 := Lib.hid (blk_below b Kx012.out)
  clear Kx012
  have Ax1_13 := Lib.hid (Ax1_12.out.below b Ax1_h12.out)
  have Ax1_h13 := Lib.hid (Nat.le_trans Ax1_h12.out b.size)
  clear Ax1_12 Ax1_h12
  have Og13 := Lib.hid (Og12.out.below b Ogh12.out)
  have Ogh13 := Lib.hid (Nat.le_trans Ogh12.out b.size)
  clear Og12 Ogh12
  have Kg13 := Lib.hid (blk_below b Kg12.out)
  clear Kg12
  clear b
  go_wp2
  have H := Lib.hid (heldC_two (Below.refl _ _) Kx013.out Kp013.out)
  refine run_region (ops := (opsOf Tryz.f3 14)) (S := fun w' => HeldC w13 w' ([(w8.heap.size, 32, #[.int .i64 x0k, .slice x0a1 x0n1 x0m1, .slice x0a2 x0n2 x0m2, .slice x0a3 x0n3 x0m3, .slice x0a4 x0n4 x0m4, .slice x0a5 x0n5 x0m5, .int .i64 x0c, .int .i64 x0e]), (w.heap.size, 26, #[.int .i64 p0k, .slice p0a1 p0n1 p0m1, .slice p0a2 p0n2 p0m2, .slice p0a3 p0n3 p0m3, .slice p0a4 p0n4 p0m4, .slice p0a5 p0n5 p0m5, .int .i64 p0c, .int .i64 p0e])])) [(0, true), (1, true), (2, false), (3, false), (4, true)] (by kernel_rfl) (by kernel_rfl) (by kernel_rfl) (by kernel_rfl) (by kernel_rfl) (fun _ _ _ _ _ h => h) (heldC_drew H.out) ?_
  have H := Lib.hid (heldC_drew H.out)
  refine runC_vec (b := w8.heap.size) (show opAt (opsOf Tryz.f3 14) 0 = some (some 54, .load 32 (.tmp 8), none) from by kernel_rfl) (by kernel_rfl) (by kernel_rfl) (by kernel_rfl) (List.Mem.head _) ?_
  refine runC_lvec (b := w.heap.size) (show opAt (opsOf Tryz.f3 14) 1 = some (some 55, .load 26 (.tmp 2), none) from by kernel_rfl) (by kernel_rfl) (by kernel_rfl) (by kernel_rfl) (List.Mem.tail _ (List.Mem.head _)) ?_
  refine run_call (args := [.agg #[.int .i64 p0k, .slice p0a1 p0n1 p0m1, .slice p0a2 p0n2 p0m2, .slice p0a3 p0n3 p0m3, .slice p0a4 p0n4 p0m4, .slice p0a5 p0n5 p0m5, .int .i64 p0c, .int .i64 p0e]]) (show opAt (opsOf Tryz.f3 14) 2 = some (some 56, .call { callee := .value (.func 8), args := [(.tmp 55)].toArray, argTypes := [26].toArray }, none) from by kernel_rfl) (by kernel_rfl) (by kernel_rfl) (by kernel_rfl) (by kernel_rfl) ?_
  refine (TO0.out _ (below_then B13.out H.out.1)).mono ?_
  rintro en r0w1 ⟨yq, rfl, ho, hb⟩
  refine ⟨_, rfl, heldC_call H.out hb, ?_⟩
  have Oyq := Lib.hid ho
  have H := Lib.hid (heldC_call H.out hb)
  clear ho hb
  refine run_call (args := [.agg #[.int .i64 x0k, .slice x0a1 x0n1 x0m1, .slice x0a2 x0n2 x0m2, .slice x0a3 x0n3 x0m3, .slice x0a4 x0n4 x0m4, .slice x0a5 x0n5 x0m5, .int .i64 x0c, .int .i64 x0e], yq]) (show opAt (opsOf Tryz.f3 14) 3 = some (some 57, .call { callee := .value (.func 11), args := [(.tmp 54), (.tmp 56)].toArray, argTypes := [32, 32].toArray }, none) from by kernel_rfl) (by kernel_rfl) (by kernel_rfl) (by kernel_rfl) (by kernel_rfl) ?_
  refine (QX0.out _ _ _ ((Ox013.out.below H.out.1 Ox0h13.out).vat (Nat.le_trans Ox0h13.out H.out.1.size)) (Oyq.out.vat (Nat.le_refl _))).mono ?_
  rintro en r0w2 ⟨rfl, hb⟩
  refine ⟨_, rfl, heldC_call H.out hb, ?_⟩
  have H := Lib.hid (heldC_call H.out hb)
  clear hb
  refine run_not (b := true) (show opAt (opsOf Tryz.f3 14) 4 = some (some 58, .unOp .not 4 (.tmp 57), none) from by kernel_rfl) (by kernel_rfl) (by kernel_rfl) (by kernel_rfl) ?_
  refine run_done ?_
  simp only [putAll, Act.put, List.setIfInBounds_toArray, List.set_cons_zero, List.set_cons_succ]
  have b := H.out.1
  clear H Oyq
  have Z14 := Lib.hid b.size
  have B14 := Lib.hid (below_then B13.out b)
  have Kp014 := Lib.hid (blk_below b Kp013.out)
  clear Kp013
  have Ou14 := Lib.hid (Ou13.out.below b Ouh13.out)
  have Ouh14 := Lib.hid (Nat.le_trans Ouh13.out b.size)
  clear Ou13 Ouh13
  have Ku14 := Lib.hid (blk_below b Ku13.out)
  clear Ku13
  have Ox014 := Lib.hid (Ox013.out.below b Ox0h13.out)
  have Ox0h14 := Lib.hid (Nat.le_trans Ox0h13.out b.size)
  clear Ox013 Ox0h13
  have Kx014 := Lib.hid (blk_below b Kx013.out)
  clear Kx013
  have Ax1_14 := Lib.hid (Ax1_13.out.below b Ax1_h13.out)
  have Ax1_h14 := Lib.hid (Nat.le_trans Ax1_h13.out b.size)
  clear Ax1_13 Ax1_h13
  have Og14 := Lib.hid (Og13.out.below b Ogh13.out)
  have Ogh14 := Lib.hid (Nat.le_trans Ogh13.out b.size)
  clear Og13 Ogh13
  have Kg14 := Lib.hid (blk_below b Kg13.out)
  clear Kg13
  clear b
  go_wp2_with fail
  with_reducible refine (TO1.out _ B14.out).mono ?_
  rintro e w14 ⟨xq1, rfl, ho, b⟩
  have Z15 := Lib.hid b.size
  have B15 := Lib.hid (below_then B14.out b)
  have Kp015 := Lib.hid (blk_below b Kp014.out)
  clear Kp014
  have Ou15 := Lib.hid (Ou14.out.below b Ouh14.out)
  have Ouh15 := Lib.hid (Nat.le_trans Ouh14.out b.size)
  clear Ou14 Ouh14
  have Ku15 := Lib.hid (blk_below b Ku14.out)
  clear Ku14
  have Ox015 := Lib.hid (Ox014.out.below b Ox0h14.out)
  have Ox0h15 := Lib.hid (Nat.le_trans Ox0h14.out b.size)
  clear Ox014 Ox0h14
  have Kx015 := Lib.hid (blk_below b Kx014.out)
  clear Kx014
  have Ax1_15 := Lib.hid (Ax1_14.out.below b Ax1_h14.out)
  have Ax1_h15 := Lib.hid (Nat.le_trans Ax1_h14.out b.size)
  clear Ax1_14 Ax1_h14
  have Og15 := Lib.hid (Og14.out.below b Ogh14.out)
  have Ogh15 := Lib.hid (Nat.le_trans Ogh14.out b.size)
  clear Og14 Ogh14
  have Kg15 := Lib.hid (blk_below b Kg14.out)
  clear Kg14
  clear b
  have Aq1_15 := Lib.hid (ho)
  have Aq1_h15 := Lib.hid ((Nat.le_refl _) : w14.heap.size ≤ w14.heap.size)
  clear ho
  go_wp2_with fail
  with_reducible refine (QE1.out _ _ _ (Ax1_15.out.at_ Ax1_h15.out) (Aq1_15.out.at_ Aq1_h15.out)).mono ?_
  rintro e w15 ⟨rfl, b⟩
  have Z16 := Lib.hid b.size
  have B16 := Lib.hid (below_then B15.out b)
  have Kp016 := Lib.hid (blk_below b Kp015.out)
  clear Kp015
  have Ou16 := Lib.hid (Ou15.out.below b Ouh15.out)
  have Ouh16 := Lib.hid (Nat.le_trans Ouh15.out b.size)
  clear Ou15 Ouh15
  have Ku16 := Lib.hid (blk_below b Ku15.out)
  clear Ku15
  have Ox016 := Lib.hid (Ox015.out.below b Ox0h15.out)
  have Ox0h16 := Lib.hid (Nat.le_trans Ox0h15.out b.size)
  clear Ox015 Ox0h15
  have Kx016 := Lib.hid (blk_below b Kx015.out)
  clear Kx015
  have Ax1_16 := Lib.hid (Ax1_15.out.below b Ax1_h15.out)
  have Ax1_h16 := Lib.hid (Nat.le_trans Ax1_h15.out b.size)
  clear Ax1_15 Ax1_h15
  have Og16 := Lib.hid (Og15.out.below b Ogh15.out)
  have Ogh16 := Lib.hid (Nat.le_trans Ogh15.out b.size)
  clear Og15 Ogh15
  have Kg16 := Lib.hid (blk_below b Kg15.out)
  clear Kg15
  have Aq1_16 := Lib.hid (Aq1_15.out.below b Aq1_h15.out)
  have Aq1_h16 := Lib.hid (Nat.le_trans Aq1_h15.out b.size)
  clear Aq1_15 Aq1_h15
  clear b
  clear Aq1_16 Aq1_h16
  obtain ⟨x0k0, x0k1, x0k2, x0k3, x0k4, x0k5, x0k6, x0k7⟩ := vec8 Kx016.out
  go_wp2_with fail
  with_reducible refine (MX0.out _ _ _ _ Ox016.out Ox0h16.out).mono ?_
  rintro e w16 ⟨rfl, t⟩
  try clear hzx0
  clear x0k0 x0k1 x0k2 x0k3 x0k4 x0k5 x0k6 x0k7
  have Z17 := Lib.hid t.size
  have B17 := Lib.hid (B16.out.trans (t.below (Nat.le_trans (Nat.le_trans (Nat.le_trans (Nat.le_trans (Nat.le_trans (Nat.le_trans Z1.out Z2.out) Z3.out) Z4.out) Z5.out) Z6.out) Z7.out) B16.out.size))
  have Kp017 := Lib.hid (t.blk (.inl (Nat.lt_of_lt_of_le ZS1.out (Nat.le_trans (Nat.le_trans (Nat.le_trans (Nat.le_trans (Nat.le_trans Z2.out Z3.out) Z4.out) Z5.out) Z6.out) Z7.out))) Kp016.out)
  clear Kp016
  have Ou17 := Lib.hid (Ou16.out.within t (.inl Z7.out) Ouh16.out)
  have Ouh17 := Lib.hid (Nat.le_trans Ouh16.out t.size)
  clear Ou16 Ouh16
  have Ku17 := Lib.hid (t.blk (.inl (Nat.lt_of_lt_of_le ZS7.out (Nat.le_refl _))) Ku16.out)
  clear Ku16
  have Kx017 := Lib.hid (t.blk (.inr (Nat.le_refl _)) Kx016.out)
  clear Kx016
  have Ax1_17 := Lib.hid (Ax1_16.out.within t (.inr Z9.out) Ax1_h16.out)
  have Ax1_h17 := Lib.hid (Nat.le_trans Ax1_h16.out t.size)
  clear Ax1_16 Ax1_h16
  have Og17 := Lib.hid (Og16.out.within t (.inr (Nat.le_trans Z9.out Z10.out)) Ogh16.out)
  have Ogh17 := Lib.hid (Nat.le_trans Ogh16.out t.size)
  clear Og16 Ogh16
  have Kg17 := Lib.hid (t.blk (.inr (Nat.le_trans (Nat.le_trans Z9.out Z10.out) Z11.out)) Kg16.out)
  clear Kg16
  clear Ox016 Ox0h16
  clear t
  clear Kx017
  go_wp2_with fail
  with_reducible refine (MK1.out _ _ _ _ Ax1_17.out Ax1_h17.out).mono ?_
  rintro e w17 ⟨rfl, t⟩
  have Z18 := Lib.hid t.size
  have B18 := Lib.hid (B17.out.trans (t.below (Nat.le_trans (Nat.le_trans (Nat.le_trans (Nat.le_trans (Nat.le_trans (Nat.le_trans (Nat.le_trans (Nat.le_trans Z1.out Z2.out) Z3.out) Z4.out) Z5.out) Z6.out) Z7.out) Z8.out) Z9.out) B17.out.size))
  have Kp018 := Lib.hid (t.blk (.inl (Nat.lt_of_lt_of_le ZS1.out (Nat.le_trans (Nat.le_trans (Nat.le_trans (Nat.le_trans (Nat.le_trans (Nat.le_trans (Nat.le_trans Z2.out Z3.out) Z4.out) Z5.out) Z6.out) Z7.out) Z8.out) Z9.out))) Kp017.out)
  clear Kp017
  have Ou18 := Lib.hid (Ou17.out.within t (.inl (Nat.le_trans (Nat.le_trans Z7.out Z8.out) Z9.out)) Ouh17.out)
  have Ouh18 := Lib.hid (Nat.le_trans Ouh17.out t.size)
  clear Ou17 Ouh17
  have Ku18 := Lib.hid (t.blk (.inl (Nat.lt_of_lt_of_le ZS7.out (Nat.le_trans Z8.out Z9.out))) Ku17.out)
  clear Ku17
  have Og18 := Lib.hid (Og17.out.within t (.inr (Nat.le_refl _)) Ogh17.out)
  have Ogh18 := Lib.hid (Nat.le_trans Ogh17.out t.size)
  clear Og17 Ogh17
  have Kg18 := Lib.hid (t.blk (.inr Z11.out) Kg17.out)
  clear Kg17
  clear Ax1_17 Ax1_h17
  clear t
  obtain ⟨gk0, gk1, gk2, gk3, gk4, gk5, gk6, gk7⟩ := vec8 Kg18.out
  obtain ⟨uk0, uk1, uk2, uk3, uk4, uk5, uk6, uk7⟩ := vec8 Ku18.out
  go_wp2_with fail
  with_reducible refine (EQ.out _ _ _ (Og18.out.vat Ogh18.out) (Ou18.out.vat Ouh18.out)).mono ?_
  rintro e w18 ⟨rfl, b⟩
  try clear hzg
  clear gk0 gk1 gk2 gk3 gk4 gk5 gk6 gk7
  try clear hzu
  clear uk0 uk1 uk2 uk3 uk4 uk5 uk6 uk7
  have Z19 := Lib.hid b.size
  have B19 := Lib.hid (below_then B18.out b)
  have Kp019 := Lib.hid (blk_below b Kp018.out)
  clear Kp018
  have Ou19 := Lib.hid (Ou18.out.below b Ouh18.out)
  have Ouh19 := Lib.hid (Nat.le_trans Ouh18.out b.size)
  clear Ou18 Ouh18
  have Ku19 := Lib.hid (blk_below b Ku18.out)
  clear Ku18
  have Og19 := Lib.hid (Og18.out.below b Ogh18.out)
  have Ogh19 := Lib.hid (Nat.le_trans Ogh18.out b.size)
  clear Og18 Ogh18
  have Kg19 := Lib.hid (blk_below b Kg18.out)
  clear Kg18
  clear b
  obtain ⟨gk0, gk1, gk2, gk3, gk4, gk5, gk6, gk7⟩ := vec8 Kg19.out
  go_wp2_with fail
  with_reducible refine (MV.out _ _ _ _ Og19.out Ogh19.out).mono ?_
  rintro e w19 ⟨rfl, ho, t⟩
  try clear hzg
  clear gk0 gk1 gk2 gk3 gk4 gk5 gk6 gk7
  have Z20 := Lib.hid t.size
  have B20 := Lib.hid (B19.out.trans (t.below (Nat.le_trans (Nat.le_trans (Nat.le_trans (Nat.le_trans (Nat.le_trans (Nat.le_trans (Nat.le_trans (Nat.le_trans (Nat.le_trans Z1.out Z2.out) Z3.out) Z4.out) Z5.out) Z6.out) Z7.out) Z8.out) Z9.out) Z10.out) B19.out.size))
  have Kp020 := Lib.hid (t.blk (.inl (Nat.lt_of_lt_of_le ZS1.out (Nat.le_trans (Nat.le_trans (Nat.le_trans (Nat.le_trans (Nat.le_trans (Nat.le_trans (Nat.le_trans (Nat.le_trans Z2.out Z3.out) Z4.out) Z5.out) Z6.out) Z7.out) Z8.out) Z9.out) Z10.out))) Kp019.out)
  clear Kp019
  have Ou20 := Lib.hid (Ou19.out.within t (.inl (Nat.le_trans (Nat.le_trans (Nat.le_trans Z7.out Z8.out) Z9.out) Z10.out)) Ouh19.out)
  have Ouh20 := Lib.hid (Nat.le_trans Ouh19.out t.size)
  clear Ou19 Ouh19
  have Ku20 := Lib.hid (t.blk (.inl (Nat.lt_of_lt_of_le ZS7.out (Nat.le_trans (Nat.le_trans Z8.out Z9.out) Z10.out))) Ku19.out)
  clear Ku19
  have Kg20 := Lib.hid (t.blk (.inr (Nat.le_refl _)) Kg19.out)
  clear Kg19
  have Og20 := Lib.hid ho
  have Ogh20 := Lib.hid (Nat.le_trans Ogh19.out t.size)
  clear Og19 Ogh19 ho
  clear t
  obtain ⟨gk0, gk1, gk2, gk3, gk4, gk5, gk6, gk7⟩ := vec8 Kg20.out
  go_wp2_with fail
  with_reducible refine (HV.out _ _ _ _ Og20.out Ogh20.out).mono ?_
  rintro e w20 ⟨rfl, b⟩
  try clear hzg
  clear gk0 gk1 gk2 gk3 gk4 gk5 gk6 gk7
  have Z21 := Lib.hid b.size
  have B21 := Lib.hid (below_then B20.out b)
  have Kp021 := Lib.hid (blk_below b Kp020.out)
  clear Kp020
  have Ou21 := Lib.hid (Ou20.out.below b Ouh20.out)
  have Ouh21 := Lib.hid (Nat.le_trans Ouh20.out b.size)
  clear Ou20 Ouh20
  have Ku21 := Lib.hid (blk_below b Ku20.out)
  clear Ku20
  have Og21 := Lib.hid (Og20.out.below b Ogh20.out)
  have Ogh21 := Lib.hid (Nat.le_trans Ogh20.out b.size)
  clear Og20 Ogh20
  have Kg21 := Lib.hid (blk_below b Kg20.out)
  clear Kg20
  clear b
  obtain ⟨p0k0, p0k1, p0k2, p0k3, p0k4, p0k5, p0k6, p0k7⟩ := vec8 Kp021.out
  go_wp2_with fail
  with_reducible refine (TO0.out _ B21.out).mono ?_
  rintro e w21 ⟨y, rfl, ho, b⟩
  obtain ⟨t0k, t0a1, t0n1, t0m1, t0a2, t0n2, t0m2, t0a3, t0n3, t0m3, t0a4, t0n4, t0m4, t0a5, t0n5, t0m5, t0c, t0e, rfl⟩ := ho.agg
  try clear hzp0
  clear p0k0 p0k1 p0k2 p0k3 p0k4 p0k5 p0k6 p0k7
  have Z22 := Lib.hid b.size
  have B22 := Lib.hid (below_then B21.out b)
  have Kp022 := Lib.hid (blk_below b Kp021.out)
  clear Kp021
  have Ou22 := Lib.hid (Ou21.out.below b Ouh21.out)
  have Ouh22 := Lib.hid (Nat.le_trans Ouh21.out b.size)
  clear Ou21 Ouh21
  have Ku22 := Lib.hid (blk_below b Ku21.out)
  clear Ku21
  have Og22 := Lib.hid (Og21.out.below b Ogh21.out)
  have Ogh22 := Lib.hid (Nat.le_trans Ogh21.out b.size)
  clear Og21 Ogh21
  have Kg22 := Lib.hid (blk_below b Kg21.out)
  clear Kg21
  clear b
  have Ot022 := Lib.hid (ho)
  have Ot0h22 := Lib.hid ((Nat.le_refl _) : w21.heap.size ≤ w21.heap.size)
  clear ho
  go_wp2_with fail
  with_reducible refine (TO1.out _ B22.out).mono ?_
  rintro e w22 ⟨xt1, rfl, ho, b⟩
  have Z23 := Lib.hid b.size
  have B23 := Lib.hid (below_then B22.out b)
  have Kp023 := Lib.hid (blk_below b Kp022.out)
  clear Kp022
  have Ou23 := Lib.hid (Ou22.out.below b Ouh22.out)
  have Ouh23 := Lib.hid (Nat.le_trans Ouh22.out b.size)
  clear Ou22 Ouh22
  have Ku23 := Lib.hid (blk_below b Ku22.out)
  clear Ku22
  have Og23 := Lib.hid (Og22.out.below b Ogh22.out)
  have Ogh23 := Lib.hid (Nat.le_trans Ogh22.out b.size)
  clear Og22 Ogh22
  have Kg23 := Lib.hid (blk_below b Kg22.out)
  clear Kg22
  have Ot023 := Lib.hid (Ot022.out.below b Ot0h22.out)
  have Ot0h23 := Lib.hid (Nat.le_trans Ot0h22.out b.size)
  clear Ot022 Ot0h22
  clear b
  have At1_23 := Lib.hid (ho)
  have At1_h23 := Lib.hid ((Nat.le_refl _) : w22.heap.size ≤ w22.heap.size)
  clear ho
  go_wp2_with fail
  with_reducible refine (IM.out _ _ xt1 (Ot023.out.vat Ot0h23.out) (At1_23.out.at_ At1_h23.out) B23.out).mono ?_
  rintro e w23 ⟨y, rfl, ho, b⟩
  obtain ⟨hk, ha1, hn1, hm1, ha2, hn2, hm2, ha3, hn3, hm3, ha4, hn4, hm4, ha5, hn5, hm5, hc, he, rfl⟩ := ho.agg
  have Z24 := Lib.hid b.size
  have B24 := Lib.hid (below_then B23.out b)
  have Kp024 := Lib.hid (blk_below b Kp023.out)
  clear Kp023
  have Ou24 := Lib.hid (Ou23.out.below b Ouh23.out)
  have Ouh24 := Lib.hid (Nat.le_trans Ouh23.out b.size)
  clear Ou23 Ouh23
  have Ku24 := Lib.hid (blk_below b Ku23.out)
  clear Ku23
  have Og24 := Lib.hid (Og23.out.below b Ogh23.out)
  have Ogh24 := Lib.hid (Nat.le_trans Ogh23.out b.size)
  clear Og23 Ogh23
  have Kg24 := Lib.hid (blk_below b Kg23.out)
  clear Kg23
  have Ot024 := Lib.hid (Ot023.out.below b Ot0h23.out)
  have Ot0h24 := Lib.hid (Nat.le_trans Ot0h23.out b.size)
  clear Ot023 Ot0h23
  have At1_24 := Lib.hid (At1_23.out.below b At1_h23.out)
  have At1_h24 := Lib.hid (Nat.le_trans At1_h23.out b.size)
  clear At1_23 At1_h23
  clear b
  have Oh24 := Lib.hid (ho)
  have Ohh24 := Lib.hid ((Nat.le_refl _) : w23.heap.size ≤ w23.heap.size)
  clear ho
  clear Ot024 Ot0h24
  clear At1_24 At1_h24
  obtain ⟨uk0, uk1, uk2, uk3, uk4, uk5, uk6, uk7⟩ := vec8 Ku24.out
  have hzu := (Array.getElem?_eq_some_iff.1 Ku24.out).1
  go_wp2_with fail
  obtain ⟨w24, hW⟩ : ∃ W, w23.alloc (.cells #[.int .i64 hk, .slice ha1 hn1 hm1, .slice ha2 hn2 hm2, .slice ha3 hn3 hm3, .slice ha4 hn4 hm4, .slice ha5 hn5 hm5, .int .i64 hc, .int .i64 he] 32) = W := ⟨_, rfl⟩
  have b : Below w23.heap.size w23 w24 := hW ▸ below1 w23 _
  have kb : w24.heap[w23.heap.size]? = some (.cells #[.int .i64 hk, .slice ha1 hn1 hm1, .slice ha2 hn2 hm2, .slice ha3 hn3 hm3, .slice ha4 hn4 hm4, .slice ha5 hn5 hm5, .int .i64 hc, .int .i64 he] 32 (0, 0)) := hW ▸ blk_new w23 _ rfl
  rw [hW]
  clear hW
  have Z25 := Lib.hid b.size
  have B25 := Lib.hid (below_then B24.out b)
  have Kp025 := Lib.hid (blk_below b Kp024.out)
  clear Kp024
  have Ou25 := Lib.hid (Ou24.out.below b Ouh24.out)
  have Ouh25 := Lib.hid (Nat.le_trans Ouh24.out b.size)
  clear Ou24 Ouh24
  have Ku25 := Lib.hid (blk_below b Ku24.out)
  clear Ku24
  have Og25 := Lib.hid (Og24.out.below b Ogh24.out)
  have Ogh25 := Lib.hid (Nat.le_trans Ogh24.out b.size)
  clear Og24 Ogh24
  have Kg25 := Lib.hid (blk_below b Kg24.out)
  clear Kg24
  have Oh25 := Lib.hid (Oh24.out.below b Ohh24.out)
  have Ohh25 := Lib.hid (Nat.le_trans Ohh24.out b.size)
  clear Oh24 Ohh24
  clear b
  have ZS25 := Lib.hid (Array.getElem?_eq_some_iff.1 kb).1
  have Kh25 := Lib.hid (kb)
  clear kb
  with_reducible refine (EQ.out _ _ _ (Oh25.out.vat Ohh25.out) (Ou25.out.vat Ouh25.out)).mono ?_
  rintro e w25 ⟨rfl, b⟩
  try clear hzu
  clear uk0 uk1 uk2 uk3 uk4 uk5 uk6 uk7
  have Z26 := Lib.hid b.size
  have B26 := Lib.hid (below_then B25.out b)
  have Kp026 := Lib.hid (blk_below b Kp025.out)
  clear Kp025
  have Ou26 := Lib.hid (Ou25.out.below b Ouh25.out)
  have Ouh26 := Lib.hid (Nat.le_trans Ouh25.out b.size)
  clear Ou25 Ouh25
  have Ku26 := Lib.hid (blk_below b Ku25.out)
  clear Ku25
  have Og26 := Lib.hid (Og25.out.below b Ogh25.out)
  have Ogh26 := Lib.hid (Nat.le_trans Ogh25.out b.size)
  clear Og25 Ogh25
  have Kg26 := Lib.hid (blk_below b Kg25.out)
  clear Kg25
  have Oh26 := Lib.hid (Oh25.out.below b Ohh25.out)
  have Ohh26 := Lib.hid (Nat.le_trans Ohh25.out b.size)
  clear Oh25 Ohh25
  have Kh26 := Lib.hid (blk_below b Kh25.out)
  clear Kh25
  clear b
  obtain ⟨gk0, gk1, gk2, gk3, gk4, gk5, gk6, gk7⟩ := vec8 Kg26.out
  go_wp2_with fail
  with_reducible refine (HV.out _ _ _ _ Og26.out Ogh26.out).mono ?_
  rintro e w26 ⟨rfl, b⟩
  try clear hzg
  clear gk0 gk1 gk2 gk3 gk4 gk5 gk6 gk7
  have Z27 := Lib.hid b.size
  have B27 := Lib.hid (below_then B26.out b)
  have Kp027 := Lib.hid (blk_below b Kp026.out)
  clear Kp026
  have Ou27 := Lib.hid (Ou26.out.below b Ouh26.out)
  have Ouh27 := Lib.hid (Nat.le_trans Ouh26.out b.size)
  clear Ou26 Ouh26
  have Ku27 := Lib.hid (blk_below b Ku26.out)
  clear Ku26
  have Og27 := Lib.hid (Og26.out.below b Ogh26.out)
  have Ogh27 := Lib.hid (Nat.le_trans Ogh26.out b.size)
  clear Og26 Ogh26
  have Kg27 := Lib.hid (blk_below b Kg26.out)
  clear Kg26
  have Oh27 := Lib.hid (Oh26.out.below b Ohh26.out)
  have Ohh27 := Lib.hid (Nat.le_trans Ohh26.out b.size)
  clear Oh26 Ohh26
  have Kh27 := Lib.hid (blk_below b Kh26.out)
  clear Kh26
  clear b
  go_wp2
  go_ret
  exact ⟨rfl, B27.out⟩

set_option maxRecDepth 100000 in
theorem contract (H : Type) (enc : TypeId × Value → H) (W : World) (base : Nat) (args : Array Value) (ds gs : List (DataW H)) (before : List MemPlace)
    (hval : ∀ (j : Nat) t v, Tryz.f3.params[j]? = some t → args[j]? = some v → Value.okWide Tryz.prog W .any base t v)
    (hW : DataW.Whole enc Tryz.prog Tryz.f3.params.toList Rows.fnExactMakeFactorWithSpec.vars false W args.toList ds gs before) (hL : laidMetH Tryz.prog Rows.fnExactMakeFactorWithRow.laid W) (hsh : W.ShapedOpen Tryz.prog) :
    Calls Tryz.prog 3 args W fun e W' => ∃ v, e = .returned v ∧ Rows.fnExactMakeFactorWithSpec.post enc Tryz.prog Tryz.f3 false true false false W args v W' := by
  have hW' := hW
  obtain ⟨p, q, hA0, hV, rfl, hfz, hnd⟩ := hW
  have hA : DataW.TrodAll enc Tryz.prog W 0 (fun _ => true) true Tryz.f3.params.toList args.toList ds p := hA0
  rw [Tryz.params3] at hA hval
  obtain ⟨v0, vs0, d0, ds0, p0, q0, hargs0, rfl, rfl, h0, r0⟩ := trodAll_cons hA
  obtain ⟨v1, vs1, d1, ds1, p1, q1, hargs1, rfl, rfl, h1, r1⟩ := trodAll_cons r0
  obtain ⟨hnil, rfl, rfl⟩ := trodAll_nil r1
  have eargs : args.toList = [v0, v1] := by rw [hargs0, hargs1, hnil]
  obtain rfl : args = #[v0, v1] := Array.toList_inj.1 eargs
  obtain ⟨rfl, rfl⟩ := trodVars_none hV
  have k0 := h0
  have lt0 : ∀ x ∈ p0, x.block < W.heap.size := by obtain ⟨m, hm⟩ := k0; exact DataW.trod_lt m _ _ _ hm
  have k1 := h1
  have lt1 : ∀ x ∈ p1, x.block < W.heap.size := by obtain ⟨m, hm⟩ := k1; exact DataW.trod_lt m _ _ _ hm
  clear hA0 eargs hargs0 hargs1
  obtain ⟨d0, x0, hv0, hf0⟩ := vec_in (hval 0 26 v0 rfl rfl) h0
  obtain ⟨a1, n1, cap1, rfl⟩ := okWide_slice Tryz.underlying24 (hval 1 24 v1 rfl rfl)
  obtain ⟨f1, hs1, hn1, hf1⟩ : ∃ f : Nat → ByteArray, StrsAt W.heap.size W a1 n1 f ∧ n1 ≤ maxLen ∧ ∀ i, (f i).size ≤ maxLen := by
    obtain ⟨fuel, hf⟩ := h1
    exact strs_in hf
  have hl : laidMet Tryz.prog Rows.fnExactMakeFactorWithRow.laid W := (MakeChecks.laidMetH_plain Tryz.prog Rows.fnExactMakeFactorWithRow.laid W (by kernel_rfl)) ▸ hL
  refine (walk x0 d0 v0 a1 n1 cap1 f1 W hv0 hf0 hs1 hn1 hf1 (powOf hl) hsh).mono fun e W' ⟨he, bel⟩ => ?_
  subst he
  have kp0 := Below.trod laidOut (show Tryz.prog.readableRec 26 = true by kernel_rfl) (of_decide_eq_true (by kernel_rfl)) k0 bel lt0
  have kp1 := Below.trod laidOut (show Tryz.prog.readableRec 24 = true by kernel_rfl) (of_decide_eq_true (by kernel_rfl)) k1 bel lt1
  exact ⟨_, rfl, _, _, _, [], _, [], hW', trodAll_mk1 (shut_bool Tryz.underlying4 _), (trodAll_cons_mk kp0 (trodAll_cons_mk kp1 trodAll_mk0)), rfl, bel.frame _, fun h => by cases h⟩

/-- The heap that the program's own initialisers leave meets the list. -/
theorem door_met (os : Os) (args : Array Value) : laidMetH Tryz.prog Rows.fnExactMakeFactorWithRow.laid ((World.doorLaid Tryz.prog 65 os).forCall (fun _ _ => 0) ⟨#[], args, []⟩).memory :=
  laidMetH_of_parts3 (fuel := 8) (laidMet_of_run' 8 (by kernel_rfl) (by kernel_rfl)) (by kernel_rfl) (by kernel_rfl)
theorem reads (os : Os) {H : Type} (enc : TypeId × Value → H) : ∃ places, DataW.whole enc Tryz.prog ((World.doorLaid Tryz.prog 65 os).forCall (fun _ _ => 0) ⟨#[], #[.agg #[.int .i64 0, .slice none 0 0, .slice none 0 0, .slice none 0 0, .slice none 0 0, .slice none 0 0, .int .i64 0, .int .i64 0], .slice none 0 0], []⟩).memory Tryz.f3.params.toList Rows.fnExactMakeFactorWithSpec.vars false #[.agg #[.int .i64 0, .slice none 0 0, .slice none 0 0, .slice none 0 0, .slice none 0 0, .slice none 0 0, .int .i64 0, .int .i64 0], .slice none 0 0].toList 8 = some ([.agg [.lit (.int .i64 0), .nil, .nil, .nil, .nil, .nil, .lit (.int .i64 0), .lit (.int .i64 0)], .nil], [], places) :=
  ⟨[], by kernel_rfl⟩

set_option maxRecDepth 100000 in
theorem lifted (os : Os) (started : os.Started) (H : Type) (enc : TypeId × Value → H) (F : Stop.Interp) :
    ReturnsInHanded {} Tryz.checked os 3 .any ((OpenSpec.ofChange Rows.fnExactMakeFactorWithSpec).preRow enc Tryz.prog Tryz.f3 Rows.fnExactMakeFactorWithRow.domain false Rows.fnExactMakeFactorWithRow.laid) (((OpenSpec.ofChange Rows.fnExactMakeFactorWithSpec).at F).post enc Tryz.prog Tryz.f3 false true false false) := by
  obtain ⟨places, hx⟩ := reads os enc
  refine returnsInHanded_of_row (C := Tryz.checked) (s := OpenSpec.ofChange Rows.fnExactMakeFactorWithSpec) own started (by kernel_rfl) Tryz.func3
    ⟨World.doorLaid Tryz.prog 65 os, fun _ _ => 0, ⟨#[], #[.agg #[.int .i64 0, .slice none 0 0, .slice none 0 0, .slice none 0 0, .slice none 0 0, .slice none 0 0, .int .i64 0, .int .i64 0], .slice none 0 0], []⟩, rfl, World.shaped_of_RefB (by kernel_rfl) (by kernel_rfl), rfl, (Input.okWide_of_okWideB (by kernel_rfl)).2,
      OpenSpec.preRow_of_cond 8 hx (by kernel_rfl) (fun k hk => by cases hk) (by kernel_rfl) (door_met os _), by simp [Assume.holds]⟩ ?_
  intro W base args ds gs before hval hW _ _ _ hL hsh _
  exact contract H enc W base args ds gs before hval hW hL hsh

theorem said : Rows.FnExactMakeFactorWithSaid :=
  OpenClaim.holds_of_cond 3 Tryz.f3 rfl rfl rfl rfl rfl rfl rfl ⟨rfl, rfl, rfl, rfl, rfl⟩ rfl rfl rfl rfl rfl (by kernel_rfl) Tryz.func3 (by kernel_rfl)
    (of_decide_eq_true (by kernel_rfl)) (by unfold Func.isWrapper; first | (rw [if_pos (by decide +kernel)]; kernel_rfl) | (rw [if_neg (by decide +kernel)]; exact ⟨rfl, rfl⟩))
    (fun os started H enc _ F => by rw [OpenClaim.pre_eq_preRow]; exact lifted os started H enc F)

theorem plain (f : FuncId) (fn : Func) (hf : Tryz.pinned.checked.prog.funcNamed "loop.example/g03406/laws.FnExactMakeFactorWith" = some f) (hfn : Tryz.pinned.checked.prog.funcs[f]? = some fn) :
    false = Tryz.pinned.checked.prog.looks [] ∧ ∀ (j : Nat) t, fn.params[j]? = some t → Tryz.pinned.checked.prog.wantsStandIn t = false := by
  obtain rfl : f = 3 := Option.some.inj ((show Tryz.prog.funcNamed "loop.example/g03406/laws.FnExactMakeFactorWith" = some 3 by kernel_rfl).symm.trans hf) |>.symm
  obtain rfl : fn = Tryz.f3 := (Option.some.inj (Tryz.func3.symm.trans hfn)).symm
  refine ⟨by kernel_rfl, fun j t ht => ?_⟩
  rw [Tryz.params3] at ht
  have hm := Array.mem_of_getElem? ht
  simp at hm
  rcases hm with rfl | rfl
  · exact (show Tryz.prog.wantsStandIn 26 = false by kernel_rfl)
  · exact (show Tryz.prog.wantsStandIn 24 = false by kernel_rfl)

theorem card : Rows.FnExactMakeFactorWithCardSaid :=
  Claim7.holds_tied_plain_at .later [] _ _ _ _ said (fun _ h => by cases h) (by kernel_rfl) (fun _ h => by cases h) fnExactMakeFactorWith_row_tie rfl ⟨rfl, rfl⟩ (by kernel_rfl) rfl plain (by kernel_rfl)
end Go.Proofs.YtddebgmjolojeaaGreatDoor.fnExactMakeFactorWith
