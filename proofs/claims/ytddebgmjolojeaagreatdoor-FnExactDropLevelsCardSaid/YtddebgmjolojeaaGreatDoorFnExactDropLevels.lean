/- Called with any arguments (vectors), the law FnExactDropLevels returns true and leaves everything as it was. Condition: the listed package-level variables read as the program's own initialisers lay them (the card ties them). -/
import Derived.Test.YtddebgmjolojeaaGreatDoorRows
import Derived.Test.YtddebgmjolojeaaGreatDoorCards
import Derived.Test.YtddebgmjolojeaaGreatDoorTie
import Derived.Test.YtddebgmjolojeaaGreatDoorMd1
import Derived.Test.YtddebgmjolojeaaGreatDoorMd4
import Derived.Test.YtddebgmjolojeaaGreatDoorMd2
import Derived.WalkKit
import Derived.ProofKit
import Derived.OpenShut
import Derived.ShutString
import Derived.ChangeOld
import Derived.Carry
import Derived.Below
import Derived.LaidMore
import Derived.Deep.DeepHandedRow
import Derived.Stop.Joined
import Derived.SevenTiedAt
namespace Go.Proofs.YtddebgmjolojeaaGreatDoor.fnExactDropLevels
open Go.ChangeShapes Go.WideShapes Go.ChangeAt Go.RowKit
open Go.ChangeMaps (open_string shut_string)
set_option linter.unusedVariables false

theorem laidOut : laidOutB Tryz.prog = true := by kernel_rfl
theorem own : ownKnob Tryz.prog.godebug = none := by kernel_rfl

theorem pkL_mem {α : Type} {z : α} {l : List α} {idx : List Nat} {x : α} (h : x ∈ pkL z l idx) : x = z ∨ x ∈ l := by
  cases l with
  | nil => cases h
  | cons y l =>
    have h' : x ∈ idx.map (fun i => (y :: l).getD i z) := h
    obtain ⟨i, _, e⟩ := List.mem_map.1 h'
    rw [List.getD_eq_getElem?_getD] at e
    cases q : (y :: l)[i]? with
    | none => rw [q] at e; exact .inl e.symm
    | some u => rw [q] at e; obtain rfl : u = x := e; exact .inr (List.mem_of_getElem? q)
theorem kpC_len (levels cls : List ByteArray) : (kpC levels cls).length ≤ cls.length := by
  cases levels with
  | nil => exact Nat.zero_le _
  | cons x l => exact Nat.le_refl _
theorem kpC_mem {levels cls : List ByteArray} {s : ByteArray} (h : s ∈ kpC levels cls) : s ∈ cls := by
  cases levels with
  | nil => cases h
  | cons x l => exact h
/-- A vector of any depth that fits. -/
structure PlainD (d : Nat) (V : Vec) : Prop where
  small : Small d V
  fits : Fits d V
  cnt : 1 + cntM d V ≤ 8000000
theorem cnt_flat (d : Nat) (k : Int) (L : List It) (N C X : List ByteArray) (c e : Int) : cntM (d + 1) (.mk k L [] N C X c e) = 3 * L.length + N.length + C.length + X.length := by
  rw [cntM_eq]
  show 3 * L.length + sumN _ 0 + N.length + C.length + X.length = _
  simp [sumN]
theorem plain_noV (d : Nat) : PlainD (d + 1) noV := by
  refine ⟨?_, ?_, ?_⟩
  · show Small (d + 1) (.mk 0 [] [] [] [] [] 0 0)
    unfold Small
    exact ⟨Nat.zero_le _, Nat.zero_le _, Nat.zero_le _, Nat.zero_le _, Nat.zero_le _, (fun _ h => by cases h), (fun _ h => by cases h), (fun _ h => by cases h), (fun _ h => by cases h), (fun _ h => by cases h)⟩
  · show Fits (d + 1) (.mk 0 [] [] [] [] [] 0 0)
    unfold Fits
    exact ⟨⟨by decide, by decide⟩, ⟨by decide, by decide⟩, ⟨by decide, by decide⟩, Nat.zero_le _, Nat.zero_le _, Nat.zero_le _, Nat.zero_le _, Nat.zero_le _, (fun _ h => by cases h), (fun _ h => by cases h), (fun _ h => by cases h), (fun _ h => by cases h), (fun _ h => by cases h)⟩
  · show 1 + cntM (d + 1) (.mk 0 [] [] [] [] [] 0 0) ≤ 8000000
    rw [cnt_flat]; simp
theorem plain_sel {d : Nat} {kk : Int} {items : List It} {parts : List Vec} {names cls levels : List ByteArray} {code env : Int} {idx : List Nat} (hsm : Small (d + 1) (.mk kk items parts names cls levels code env)) (hf : Fits (d + 1) (.mk kk items parts names cls levels code env)) (hl : (pkL noI items idx).length ≤ 40) : PlainD (d + 1) (.mk kk (pkL noI items idx) [] [] (kpC levels cls) levels 0 0) := by
  obtain ⟨s1, s2, s3, s4, s5, s6, s7, s8, s9, s10⟩ := hsm
  obtain ⟨f1, f2, f3, f4, f5, f6, f7, f8, f9, f10, f11, f12, f13⟩ := hf
  have hc := kpC_len levels cls
  refine ⟨?_, ?_, ?_⟩
  · unfold Small
    refine ⟨by omega, Nat.zero_le _, Nat.zero_le _, by omega, s5, fun x hx => ?_, (fun _ h => by cases h), fun s hs => s8 s (kpC_mem hs), s9, (fun _ h => by cases h)⟩
    rcases pkL_mem hx with rfl | h
    · exact Nat.zero_le _
    · exact s6 x h
  · unfold Fits
    refine ⟨f1, ⟨by decide, by decide⟩, ⟨by decide, by decide⟩, by unfold maxLen; omega, Nat.zero_le _, Nat.zero_le _, by omega, f8, fun x hx => ?_, (fun _ h => by cases h), fun s hs => f11 s (kpC_mem hs), f12, (fun _ h => by cases h)⟩
    rcases pkL_mem hx with rfl | h
    · exact ⟨⟨by decide, by decide⟩, ⟨by decide, by decide⟩, Nat.zero_le _⟩
    · exact f9 x h
  · rw [cnt_flat]
    simp only [List.length_nil]
    omega
theorem fac_plain {lv : List ByteArray} {X : List It} {names : List ByteArray} (hX : X.length ≤ 1048576) (hn : names.length ≤ 1048576) (hs : ∀ s ∈ names, s.size ≤ 1048576) (hl : lv.length ≤ 1048576) (hls : ∀ s ∈ lv, s.size ≤ 1048576) : PlainD 1 (facR lv X names) := by
  refine ⟨small_fac hX hn hs hl hls, ?_, ?_⟩
  · show Fits 1 (.mk 2 (codL lv X) [] names [facB] lv 0 0)
    unfold Fits
    refine ⟨⟨by decide, by decide⟩, ⟨by decide, by decide⟩, ⟨by decide, by decide⟩, by rw [codL_len]; unfold maxLen; omega, Nat.zero_le _, by unfold maxLen; omega, (by decide : (1 : Nat) ≤ maxLen), by unfold maxLen; omega, fun x hx => ?_, fun s h => by have := hs s h; unfold maxLen; omega, fun s h => ?_, fun s h => by have := hls s h; unfold maxLen; omega, (fun _ h => by cases h)⟩
    · obtain ⟨i, hi, rfl⟩ := mem_itF hx
      rcases codI_in lv (X.getD i noI) with e | ⟨n, hn', e⟩ <;> rw [e]
      · exact ⟨by decide, by decide, Nat.zero_le _⟩
      · exact ⟨⟨by show (-9223372036854775808 : Int) ≤ (n : Int) + 1; omega, by show (n : Int) + 1 ≤ 9223372036854775807; omega⟩, ⟨by show (-9223372036854775808 : Int) ≤ 1; decide, by show (1 : Int) ≤ 9223372036854775807; decide⟩, Nat.zero_le _⟩
    · obtain rfl := List.mem_singleton.1 h; decide
  · show 1 + cntM 1 (.mk 2 (codL lv X) [] names [facB] lv 0 0) ≤ 8000000
    rw [cntM_eq]
    show 1 + (3 * (codL lv X).length + sumN _ 0 + names.length + 1 + lv.length) ≤ 8000000
    rw [codL_len]
    simp only [sumN]
    omega
theorem mf_plain {d : Nat} {v : Vec} {lv : List ByteArray} (hsm : Small d v) (hl : lv.length ≤ 1048576) (hs : ∀ s ∈ lv, s.size ≤ 1048576) : PlainD 1 (mfV v lv) := by
  by_cases h : mfS v lv = ⟨#[]⟩
  · cases d with
    | zero => exact hsm.elim
    | succ d =>
      obtain ⟨kk, items, parts, names, cls, levels, code, env⟩ := v
      have e : mfV (.mk kk items parts names cls levels code env) lv = facR lv (txsL kk items levels) names := by unfold mfV; rw [bB_yes h]
      rw [e]
      have hX : (txsL kk items levels).length ≤ 1048576 := by rw [txsL_len]; exact hsm.1
      exact fac_plain hX hsm.2.2.1 hsm.2.2.2.2.2.2.1 hl hs
  · rw [mf_not h]; exact plain_noV 0

theorem dl_plain {d : Nat} {v : Vec} (hsm : Small d v) : PlainD 1 (dlV v) := by
  by_cases h : FacV v
  · rw [(dl_yes h).1]
    obtain ⟨h1, h2⟩ := dlL_small h
    exact mf_plain hsm (by omega) (fun s hs => by have := h2 s hs; omega)
  · rw [(dl_not h).1]; exact plain_noV 0

set_option maxHeartbeats 2000000 in
set_option maxRecDepth 100000 in
theorem walk (x0 : Vec) (d0 : Nat) (y0 : Value) (w : World) (hv0 : VecAt 0 w.heap.size w d0 x0 y0) (hf0 : Fits d0 x0) (tab : Lib.TabIs Tryz.prog w "internal/strconv.uint64pow10" .u64 Lib.pow10Tab) (hsh : w.ShapedOpen Tryz.prog) :
    Calls Tryz.prog 4 #[y0] w fun e w' => e = .returned (.bool true) ∧ Below w.heap.size w w' := by
  have SZ0 := Lib.hid (fun (w1 : World) (hb : Below w.heap.size w w1) => (szAll d0).out x0 y0 1048576 0 w.heap.size w1 (hv0.below hb (Nat.le_refl _)) hb.size hf0 (by omega) (by omega))
  by_cases hbig : 1048576 < wV d0 x0
  · rw [szL_no (show (1048576 : Int) < (wV d0 x0 : Int) by omega)] at SZ0
    clear hbig tab hsh
    obtain ⟨p0k, p0a1, p0n1, p0m1, p0a2, p0n2, p0m2, p0a3, p0n3, p0m3, p0a4, p0n4, p0m4, p0a5, p0n5, p0m5, p0c, p0e, rfl⟩ := hv0.agg
    clear hv0 hf0
    go_enter Tryz.func4, Tryz.ntmps4
    go_wp2_with fail
    with_reducible refine (SZ0.out _ (below1 w _)).mono ?_
    rintro e w1 ⟨rfl, b⟩
    have B1 := Lib.hid (below_then (below1 w _) b)
    clear b
    go_wp2
    go_ret
    exact ⟨rfl, B1.out⟩
  have hsm := small_of d0 x0 hf0 (by omega)
  have hcm : 1 + cntM d0 x0 ≤ 8000000 := by have := cntM_le d0 x0; omega
  rw [szL_yes (show (wV d0 x0 : Int) ≤ 1048576 by omega)] at SZ0
  have TO0 := Lib.hid (fun (w1 : World) (hb : Below w.heap.size w w1) => toVecR d0 x0 y0 0 w.heap.size w1 (hv0.below hb (Nat.le_refl _)) hb.size hsm)
  have QX0 := Lib.hid (fun (w1 : World) (x y : Value) (h : VecAt 0 w1.heap.size w1 d0 x0 x) (k : VecAt 0 w1.heap.size w1 d0 x0 y) => (eqAll d0).out x0 x y 0 w1.heap.size 0 w1.heap.size w1 h (Nat.le_refl _) k (Nat.le_refl _) hf0)
  have MX0 := Lib.hid (fun (w1 : World) (y : Value) (lo hi : Nat) (h : Own d0 x0 y lo hi w1) (hh : hi ≤ w1.heap.size) => markOwnX d0 x0 y lo hi w1 h hh hsm hcm)
  have SP := Lib.hid (fun (w1 : World) (y : Value) (h : VecAt 0 w1.heap.size w1 d0 x0 y) => specDropLevels d0 x0 y 0 w1.heap.size w1 h (Nat.le_refl _) hsm)
  have IM := Lib.hid (fun (w1 : World) (y : Value) (h : VecAt 0 w1.heap.size w1 d0 x0 y) (hb : Below w.heap.size w w1) => implDropLevels d0 x0 y 0 w1.heap.size w1 h (Nat.le_refl _) hsm (tab_below tab hb))
  have PV := dl_plain hsm
  have HS0 := PV.small
  have HF0 := PV.fits
  have HC0 := PV.cnt
  obtain ⟨V, hV⟩ : ∃ V, dlV x0 = V := ⟨_, rfl⟩
  obtain ⟨s, hs⟩ : ∃ s, dlS x0 = s := ⟨_, rfl⟩
  rw [hV] at SP IM HS0 HF0 HC0
  rw [hs] at SP IM
  clear hV hs PV hsm hcm tab hsh
  obtain ⟨cx, hcx⟩ : ∃ c, 1 + cntM d0 x0 = c := ⟨_, rfl⟩
  rw [hcx] at MX0
  clear hcx
  obtain ⟨q, hq⟩ : ∃ q, wV d0 x0 = q := ⟨_, rfl⟩
  rw [hq] at SZ0 hbig
  clear hq
  have SMV := Lib.hid (HS0)
  have FTV := Lib.hid (HF0)
  have CMV := Lib.hid (HC0)
  have EQ := Lib.hid (fun (w1 : World) (x y : Value) (h : VecAt 0 w1.heap.size w1 1 V x) (k : VecAt 0 w1.heap.size w1 1 V y) => (eqAll 1).out V x y 0 w1.heap.size 0 w1.heap.size w1 h (Nat.le_refl _) k (Nat.le_refl _) FTV.out)
  have MV := Lib.hid (fun (w1 : World) (y : Value) (lo hi : Nat) (h : Own 1 V y lo hi w1) (hh : hi ≤ w1.heap.size) => markOwn 1 V y lo hi w1 h hh SMV.out CMV.out)
  have HV := Lib.hid (fun (w1 : World) (y : Value) (lo hi : Nat) (h : Own 1 (markV 1 1 V) y lo hi w1) (hh : hi ≤ w1.heap.size) => heldOwn 1 V y lo hi w1 h hh SMV.out CMV.out)
  clear SMV FTV CMV
  obtain ⟨cm, hcm'⟩ : ∃ c, 1 + cntM 1 V = c := ⟨_, rfl⟩
  rw [hcm'] at MV HV
  clear hcm'
  clear HS0 HF0 HC0 hf0
  obtain ⟨p0k, p0a1, p0n1, p0m1, p0a2, p0n2, p0m2, p0a3, p0n3, p0m3, p0a4, p0n4, p0m4, p0a5, p0n5, p0m5, p0c, p0e, rfl⟩ := hv0.agg
  clear hv0
  go_enter Tryz.func4, Tryz.ntmps4
  go_wp2_with fail
  obtain ⟨w1, hW⟩ : ∃ W, w.alloc (.cells #[.int .i64 p0k, .slice p0a1 p0n1 p0m1, .slice p0a2 p0n2 p0m2, .slice p0a3 p0n3 p0m3, .slice p0a4 p0n4 p0m4, .slice p0a5 p0n5 p0m5, .int .i64 p0c, .int .i64 p0e] 26) = W := ⟨_, rfl⟩
  have b : Below w.heap.size w w1 := hW ▸ below1 w _
  have kb : w1.heap[w.heap.size]? = some (.cells #[.int .i64 p0k, .slice p0a1 p0n1 p0m1, .slice p0a2 p0n2 p0m2, .slice p0a3 p0n3 p0m3, .slice p0a4 p0n4 p0m4, .slice p0a5 p0n5 p0m5, .int .i64 p0c, .int .i64 p0e] 26 (0, 0)) := hW ▸ blk_new w _ rfl
  rw [hW]
  clear hW
  have Z1 := Lib.hid b.size
  have B1 := Lib.hid (below_then (Below.refl _ _) b)
  clear b
  have ZS1 := Lib.hid (Array.getElem?_eq_some_iff.1 kb).1
  have Kp01 := Lib.hid (kb)
  clear kb
  with_reducible refine (SZ0.out _ B1.out).mono ?_
  rintro e w2 ⟨rfl, b⟩
  have Z2 := Lib.hid b.size
  have B2 := Lib.hid (below_then B1.out b)
  have Kp02 := Lib.hid (blk_below b Kp01.out)
  clear Kp01
  clear b
  obtain ⟨p0k0, p0k1, p0k2, p0k3, p0k4, p0k5, p0k6, p0k7⟩ := vec8 Kp02.out
  go_wp2_with fail
  with_reducible refine (TO0.out _ B2.out).mono ?_
  rintro e w3 ⟨y, rfl, ho, b⟩
  obtain ⟨s0k, s0a1, s0n1, s0m1, s0a2, s0n2, s0m2, s0a3, s0n3, s0m3, s0a4, s0n4, s0m4, s0a5, s0n5, s0m5, s0c, s0e, rfl⟩ := ho.agg
  try clear hzp0
  clear p0k0 p0k1 p0k2 p0k3 p0k4 p0k5 p0k6 p0k7
  have Z3 := Lib.hid b.size
  have B3 := Lib.hid (below_then B2.out b)
  have Kp03 := Lib.hid (blk_below b Kp02.out)
  clear Kp02
  clear b
  have Os03 := Lib.hid (ho)
  have Os0h3 := Lib.hid ((Nat.le_refl _) : w3.heap.size ≤ w3.heap.size)
  clear ho
  go_wp2_with fail
  with_reducible refine (SP.out _ _ (Os03.out.vat Os0h3.out)).mono ?_
  rintro e w4 ⟨y, rfl, ho, b⟩
  obtain ⟨uk, ua1, un1, um1, ua2, un2, um2, ua3, un3, um3, ua4, un4, um4, ua5, un5, um5, uc, ue, rfl⟩ := ho.agg
  have Z4 := Lib.hid b.size
  have B4 := Lib.hid (below_then B3.out b)
  have Kp04 := Lib.hid (blk_below b Kp03.out)
  clear Kp03
  have Os04 := Lib.hid (Os03.out.below b Os0h3.out)
  have Os0h4 := Lib.hid (Nat.le_trans Os0h3.out b.size)
  clear Os03 Os0h3
  clear b
  have Ou4 := Lib.hid (ho)
  have Ouh4 := Lib.hid ((Nat.le_refl _) : w4.heap.size ≤ w4.heap.size)
  clear ho
  clear Os04 Os0h4
  obtain ⟨p0k0, p0k1, p0k2, p0k3, p0k4, p0k5, p0k6, p0k7⟩ := vec8 Kp04.out
  have hzp0 := (Array.getElem?_eq_some_iff.1 Kp04.out).1
  go_wp2_with fail
  obtain ⟨w5, hW⟩ : ∃ W, w4.alloc (.cells #[.int .i64 uk, .slice ua1 un1 um1, .slice ua2 un2 um2, .slice ua3 un3 um3, .slice ua4 un4 um4, .slice ua5 un5 um5, .int .i64 uc, .int .i64 ue] 32) = W := ⟨_, rfl⟩
  have b : Below w4.heap.size w4 w5 := hW ▸ below1 w4 _
  have kb : w5.heap[w4.heap.size]? = some (.cells #[.int .i64 uk, .slice ua1 un1 um1, .slice ua2 un2 um2, .slice ua3 un3 um3, .slice ua4 un4 um4, .slice ua5 un5 um5, .int .i64 uc, .int .i64 ue] 32 (0, 0)) := hW ▸ blk_new w4 _ rfl
  rw [hW]
  clear hW
  have Z5 := Lib.hid b.size
  have B5 := Lib.hid (below_then B4.out b)
  have Kp05 := Lib.hid (blk_below b Kp04.out)
  clear Kp04
  have Ou5 := Lib.hid (Ou4.out.below b Ouh4.out)
  have Ouh5 := Lib.hid (Nat.le_trans Ouh4.out b.size)
  clear Ou4 Ouh4
  clear b
  have ZS5 := Lib.hid (Array.getElem?_eq_some_iff.1 kb).1
  have Ku5 := Lib.hid (kb)
  clear kb
  with_reducible refine (TO0.out _ B5.out).mono ?_
  rintro e w6 ⟨y, rfl, ho, b⟩
  obtain ⟨x0k, x0a1, x0n1, x0m1, x0a2, x0n2, x0m2, x0a3, x0n3, x0m3, x0a4, x0n4, x0m4, x0a5, x0n5, x0m5, x0c, x0e, rfl⟩ := ho.agg
  try clear hzp0
  clear p0k0 p0k1 p0k2 p0k3 p0k4 p0k5 p0k6 p0k7
  have Z6 := Lib.hid b.size
  have B6 := Lib.hid (below_then B5.out b)
  have Kp06 := Lib.hid (blk_below b Kp05.out)
  clear Kp05
  have Ou6 := Lib.hid (Ou5.out.below b Ouh5.out)
  have Ouh6 := Lib.hid (Nat.le_trans Ouh5.out b.size)
  clear Ou5 Ouh5
  have Ku6 := Lib.hid (blk_below b Ku5.out)
  clear Ku5
  clear b
  have Ox06 := Lib.hid (ho)
  have Ox0h6 := Lib.hid ((Nat.le_refl _) : w6.heap.size ≤ w6.heap.size)
  clear ho
  go_wp2_with fail
  obtain ⟨w7, hW⟩ : ∃ W, w6.alloc (.cells #[.int .i64 x0k, .slice x0a1 x0n1 x0m1, .slice x0a2 x0n2 x0m2, .slice x0a3 x0n3 x0m3, .slice x0a4 x0n4 x0m4, .slice x0a5 x0n5 x0m5, .int .i64 x0c, .int .i64 x0e] 32) = W := ⟨_, rfl⟩
  have b : Below w6.heap.size w6 w7 := hW ▸ below1 w6 _
  have kb : w7.heap[w6.heap.size]? = some (.cells #[.int .i64 x0k, .slice x0a1 x0n1 x0m1, .slice x0a2 x0n2 x0m2, .slice x0a3 x0n3 x0m3, .slice x0a4 x0n4 x0m4, .slice x0a5 x0n5 x0m5, .int .i64 x0c, .int .i64 x0e] 32 (0, 0)) := hW ▸ blk_new w6 _ rfl
  rw [hW]
  clear hW
  have Z7 := Lib.hid b.size
  have B7 := Lib.hid (below_then B6.out b)
  have Kp07 := Lib.hid (blk_below b Kp06.out)
  clear Kp06
  have Ou7 := Lib.hid (Ou6.out.below b Ouh6.out)
  have Ouh7 := Lib.hid (Nat.le_trans Ouh6.out b.size)
  clear Ou6 Ouh6
  have Ku7 := Lib.hid (blk_below b Ku6.out)
  clear Ku6
  have Ox07 := Lib.hid (Ox06.out.below b Ox0h6.out)
  have Ox0h7 := Lib.hid (Nat.le_trans Ox0h6.out b.size)
  clear Ox06 Ox0h6
  clear b
  have ZS7 := Lib.hid (Array.getElem?_eq_some_iff.1 kb).1
  have Kx07 := Lib.hid (kb)
  clear kb
  with_reducible refine (IM.out _ _ (Ox07.out.vat Ox0h7.out) B7.out).mono ?_
  rintro e w8 ⟨y, rfl, ho, b⟩
  obtain ⟨gk, ga1, gn1, gm1, ga2, gn2, gm2, ga3, gn3, gm3, ga4, gn4, gm4, ga5, gn5, gm5, gc, ge, rfl⟩ := ho.agg
  have Z8 := Lib.hid b.size
  have B8 := Lib.hid (below_then B7.out b)
  have Kp08 := Lib.hid (blk_below b Kp07.out)
  clear Kp07
  have Ou8 := Lib.hid (Ou7.out.below b Ouh7.out)
  have Ouh8 := Lib.hid (Nat.le_trans Ouh7.out b.size)
  clear Ou7 Ouh7
  have Ku8 := Lib.hid (blk_below b Ku7.out)
  clear Ku7
  have Ox08 := Lib.hid (Ox07.out.below b Ox0h7.out)
  have Ox0h8 := Lib.hid (Nat.le_trans Ox0h7.out b.size)
  clear Ox07 Ox0h7
  have Kx08 := Lib.hid (blk_below b Kx07.out)
  clear Kx07
  clear b
  have Og8 := Lib.hid (ho)
  have Ogh8 := Lib.hid ((Nat.le_refl _) : w8.heap.size ≤ w8.heap.size)
  clear ho
  obtain ⟨uk0, uk1, uk2, uk3, uk4, uk5, uk6, uk7⟩ := vec8 Ku8.out
  have hzu := (Array.getElem?_eq_some_iff.1 Ku8.out).1
  go_wp2_with fail
  obtain ⟨w9, hW⟩ : ∃ W, w8.alloc (.cells #[.int .i64 gk, .slice ga1 gn1 gm1, .slice ga2 gn2 gm2, .slice ga3 gn3 gm3, .slice ga4 gn4 gm4, .slice ga5 gn5 gm5, .int .i64 gc, .int .i64 ge] 32) = W := ⟨_, rfl⟩
  have b : Below w8.heap.size w8 w9 := hW ▸ below1 w8 _
  have kb : w9.heap[w8.heap.size]? = some (.cells #[.int .i64 gk, .slice ga1 gn1 gm1, .slice ga2 gn2 gm2, .slice ga3 gn3 gm3, .slice ga4 gn4 gm4, .slice ga5 gn5 gm5, .int .i64 gc, .int .i64 ge] 32 (0, 0)) := hW ▸ blk_new w8 _ rfl
  rw [hW]
  clear hW
  have Z9 := Lib.hid b.size
  have B9 := Lib.hid (below_then B8.out b)
  have Kp09 := Lib.hid (blk_below b Kp08.out)
  clear Kp08
  have Ou9 := Lib.hid (Ou8.out.below b Ouh8.out)
  have Ouh9 := Lib.hid (Nat.le_trans Ouh8.out b.size)
  clear Ou8 Ouh8
  have Ku9 := Lib.hid (blk_below b Ku8.out)
  clear Ku8
  have Ox09 := Lib.hid (Ox08.out.below b Ox0h8.out)
  have Ox0h9 := Lib.hid (Nat.le_trans Ox0h8.out b.size)
  clear Ox08 Ox0h8
  have Kx09 := Lib.hid (blk_below b Kx08.out)
  clear Kx08
  have Og9 := Lib.hid (Og8.out.below b Ogh8.out)
  have Ogh9 := Lib.hid (Nat.le_trans Ogh8.out b.size)
  clear Og8 Ogh8
  clear b
  have ZS9 := Lib.hid (Array.getElem?_eq_some_iff.1 kb).1
  have Kg9 := Lib.hid (kb)
  clear kb
  with_reducible refine (EQ.out _ _ _ (Og9.out.vat Ogh9.out) (Ou9.out.vat Ouh9.out)).mono ?_
  rintro e w10 ⟨rfl, b⟩
  try clear hzu
  clear uk0 uk1 uk2 uk3 uk4 uk5 uk6 uk7
  have Z10 := Lib.hid b.size
  have B10 := Lib.hid (below_then B9.out b)
  have Kp010 := Lib.hid (blk_below b Kp09.out)
  clear Kp09
  have Ou10 := Lib.hid (Ou9.out.below b Ouh9.out)
  have Ouh10 := Lib.hid (Nat.le_trans Ouh9.out b.size)
  clear Ou9 Ouh9
  have Ku10 := Lib.hid (blk_below b Ku9.out)
  clear Ku9
  have Ox010 := Lib.hid (Ox09.out.below b Ox0h9.out)
  have Ox0h10 := Lib.hid (Nat.le_trans Ox0h9.out b.size)
  clear Ox09 Ox0h9
  have Kx010 := Lib.hid (blk_below b Kx09.out)
  clear Kx09
  have Og10 := Lib.hid (Og9.out.below b Ogh9.out)
  have Ogh10 := Lib.hid (Nat.le_trans Ogh9.out b.size)
  clear Og9 Ogh9
  have Kg10 := Lib.hid (blk_below b Kg9.out)
  clear Kg9
  clear b
  go_wp2
  have H := Lib.hid (heldC_two (Below.refl _ _) Kx010.out Kp010.out)
  refine run_region (ops := (opsOf Tryz.f4 10)) (S := fun w' => HeldC w10 w' ([(w6.heap.size, 32, #[.int .i64 x0k, .slice x0a1 x0n1 x0m1, .slice x0a2 x0n2 x0m2, .slice x0a3 x0n3 x0m3, .slice x0a4 x0n4 x0m4, .slice x0a5 x0n5 x0m5, .int .i64 x0c, .int .i64 x0e]), (w.heap.size, 26, #[.int .i64 p0k, .slice p0a1 p0n1 p0m1, .slice p0a2 p0n2 p0m2, .slice p0a3 p0n3 p0m3, .slice p0a4 p0n4 p0m4, .slice p0a5 p0n5 p0m5, .int .i64 p0c, .int .i64 p0e])])) [(0, true), (1, true), (2, false), (3, false), (4, true)] (by kernel_rfl) (by kernel_rfl) (by kernel_rfl) (by kernel_rfl) (by kernel_rfl) (fun _ _ _ _ _ h => h) (heldC_drew H.out) ?_
  have H := Lib.hid (heldC_drew H.out)
  refine runC_vec (b := w6.heap.size) (show opAt (opsOf Tryz.f4 10) 0 = some (some 41, .load 32 (.tmp 6), none) from by kernel_rfl) (by kernel_rfl) (by kernel_rfl) (by kernel_rfl) (List.Mem.head _) ?_
  refine runC_lvec (b := w.heap.size) (show opAt (opsOf Tryz.f4 10) 1 = some (some 42, .load 26 (.tmp 1), none) from by kernel_rfl) (by kernel_rfl) (by kernel_rfl) (by kernel_rfl) (List.Mem.tail _ (List.Mem.head _)) ?_
  refine run_call (args := [.agg #[.int .i64 p0k, .slice p0a1 p0n1 p0m1, .slice p0a2 p0n2 p0m2, .slice p0a3 p0n3 p0m3, .slice p0a4 p0n4 p0m4, .slice p0a5 p0n5 p0m5, .int .i64 p0c, .int .i64 p0e]]) (show opAt (opsOf Tryz.f4 10) 2 = some (some 43, .call { callee := .value (.func 8), args := [(.tmp 42)].toArray, argTypes := [26].toArray }, none) from by kernel_rfl) (by kernel_rfl) (by kernel_rfl) (by kernel_rfl) (by kernel_rfl) ?_
  refine (TO0.out _ (below_then B10.out H.out.1)).mono ?_
  rintro en r0w1 ⟨yq, rfl, ho, hb⟩
  refine ⟨_, rfl, heldC_call H.out hb, ?_⟩
  have Oyq := Lib.hid ho
  have H := Lib.hid (heldC_call H.out hb)
  clear ho hb
  refine run_call (args := [.agg #[.int .i64 x0k, .slice x0a1 x0n1 x0m1, .slice x0a2 x0n2 x0m2, .slice x0a3 x0n3 x0m3, .slice x0a4 x0n4 x0m4, .slice x0a5 x0n5 x0m5, .int .i64 x0c, .int .i64 x0e], yq]) (show opAt (opsOf Tryz.f4 10) 3 = some (some 44, .call { callee := .value (.func 11), args := [(.tmp 41), (.tmp 43)].toArray, argTypes := [32, 32].toArray }, none) from by kernel_rfl) (by kernel_rfl) (by kernel_rfl) (by kernel_rfl) (by kernel_rfl) ?_
  refine (QX0.out _ _ _ ((Ox010.out.below H.out.1 Ox0h10.out).vat (Nat.le_trans Ox0h10.out H.out.1.size)) (Oyq.out.vat (Nat.le_refl _))).mono ?_
  rintro en r0w2 ⟨rfl, hb⟩
  refine ⟨_, rfl, heldC_call H.out hb, ?_⟩
  have H := Lib.hid (heldC_call H.out hb)
  clear hb
  refine run_not (b := true) (show opAt (opsOf Tryz.f4 10) 4 = some (some 45, .unOp .not 4 (.tmp 44), none) from by kernel_rfl) (by kernel_rfl) (by kernel_rfl) (by kernel_rfl) ?_
  refine run_done ?_
  simp only [putAll, Act.put, List.setIfInBounds_toArray, List.set_cons_zero, List.set_cons_succ]
  have b := H.out.1
  clear H Oyq
  have Z11 := Lib.hid b.size
  have B11 := Lib.hid (below_then B10.out b)
  have Kp011 := Lib.hid (blk_below b Kp010.out)
  clear Kp010
  have Ou11 := Lib.hid (Ou10.out.below b Ouh10.out)
  have Ouh11 := Lib.hid (Nat.le_trans Ouh10.out b.size)
  clear Ou10 Ouh10
  have Ku11 := Lib.hid (blk_below b Ku10.out)
  clear Ku10
  have Ox011 := Lib.hid (Ox010.out.below b Ox0h10.out)
  have Ox0h11 := Lib.hid (Nat.le_trans Ox0h10.out b.size)
  clear Ox010 Ox0h10
  have Kx011 := Lib.hid (blk_below b Kx010.out)
  clear Kx010
  have Og11 := Lib.hid (Og10.out.below b Ogh10.out)
  have Ogh11 := Lib.hid (Nat.le_trans Ogh10.out b.size)
  clear Og10 Ogh10
  have Kg11 := Lib.hid (blk_below b Kg10.out)
  clear Kg10
  clear b
  obtain ⟨x0k0, x0k1, x0k2, x0k3, x0k4, x0k5, x0k6, x0k7⟩ := vec8 Kx011.out
  go_wp2_with fail
  with_reducible refine (MX0.out _ _ _ _ Ox011.out Ox0h11.out).mono ?_
  rintro e w11 ⟨rfl, t⟩
  try clear hzx0
  clear x0k0 x0k1 x0k2 x0k3 x0k4 x0k5 x0k6 x0k7
  have Z12 := Lib.hid t.size
  have B12 := Lib.hid (B11.out.trans (t.below (Nat.le_trans (Nat.le_trans (Nat.le_trans (Nat.le_trans Z1.out Z2.out) Z3.out) Z4.out) Z5.out) B11.out.size))
  have Kp012 := Lib.hid (t.blk (.inl (Nat.lt_of_lt_of_le ZS1.out (Nat.le_trans (Nat.le_trans (Nat.le_trans Z2.out Z3.out) Z4.out) Z5.out))) Kp011.out)
  clear Kp011
  have Ou12 := Lib.hid (Ou11.out.within t (.inl Z5.out) Ouh11.out)
  have Ouh12 := Lib.hid (Nat.le_trans Ouh11.out t.size)
  clear Ou11 Ouh11
  have Ku12 := Lib.hid (t.blk (.inl (Nat.lt_of_lt_of_le ZS5.out (Nat.le_refl _))) Ku11.out)
  clear Ku11
  have Kx012 := Lib.hid (t.blk (.inr (Nat.le_refl _)) Kx011.out)
  clear Kx011
  have Og12 := Lib.hid (Og11.out.within t (.inr Z7.out) Ogh11.out)
  have Ogh12 := Lib.hid (Nat.le_trans Ogh11.out t.size)
  clear Og11 Ogh11
  have Kg12 := Lib.hid (t.blk (.inr (Nat.le_trans Z7.out Z8.out)) Kg11.out)
  clear Kg11
  clear Ox011 Ox0h11
  clear t
  clear Kx012
  obtain ⟨gk0, gk1, gk2, gk3, gk4, gk5, gk6, gk7⟩ := vec8 Kg12.out
  obtain ⟨uk0, uk1, uk2, uk3, uk4, uk5, uk6, uk7⟩ := vec8 Ku12.out
  go_wp2_with fail
  with_reducible refine (EQ.out _ _ _ (Og12.out.vat Ogh12.out) (Ou12.out.vat Ouh12.out)).mono ?_
  rintro e w12 ⟨rfl, b⟩
  try clear hzg
  clear gk0 gk1 gk2 gk3 gk4 gk5 gk6 gk7
  try clear hzu
  clear uk0 uk1 uk2 uk3 uk4 uk5 uk6 uk7
  have Z13 := Lib.hid b.size
  have B13 := Lib.hid (below_then B12.out b)
  have Kp013 := Lib.hid (blk_below b Kp012.out)
  clear Kp012
  have Ou13 := Lib.hid (Ou12.out.below b Ouh12.out)
  have Ouh13 := Lib.hid (Nat.le_trans Ouh12.out b.size)
  clear Ou12 Ouh12
  have Ku13 := Lib.hid (blk_below b Ku12.out)
  clear Ku12
  have Og13 := Lib.hid (Og12.out.below b Ogh12.out)
  have Ogh13 := Lib.hid (Nat.le_trans Ogh12.out b.size)
  clear Og12 Ogh12
  have Kg13 := Lib.hid (blk_below b Kg12.out)
  clear Kg12
  clear b
  obtain ⟨gk0, gk1, gk2, gk3, gk4, gk5, gk6, gk7⟩ := vec8 Kg13.out
  go_wp2_with fail
  with_reducible refine (MV.out _ _ _ _ Og13.out Ogh13.out).mono ?_
  rintro e w13 ⟨rfl, ho, t⟩
  try clear hzg
  clear gk0 gk1 gk2 gk3 gk4 gk5 gk6 gk7
  have Z14 := Lib.hid t.size
  have B14 := Lib.hid (B13.out.trans (t.below (Nat.le_trans (Nat.le_trans (Nat.le_trans (Nat.le_trans (Nat.le_trans (Nat.le_trans Z1.out Z2.out) Z3.out) Z4.out) Z5.out) Z6.out) Z7.out) B13.out.size))
  have Kp014 := Lib.hid (t.blk (.inl (Nat.lt_of_lt_of_le ZS1.out (Nat.le_trans (Nat.le_trans (Nat.le_trans (Nat.le_trans (Nat.le_trans Z2.out Z3.out) Z4.out) Z5.out) Z6.out) Z7.out))) Kp013.out)
  clear Kp013
  have Ou14 := Lib.hid (Ou13.out.within t (.inl (Nat.le_trans (Nat.le_trans Z5.out Z6.out) Z7.out)) Ouh13.out)
  have Ouh14 := Lib.hid (Nat.le_trans Ouh13.out t.size)
  clear Ou13 Ouh13
  have Ku14 := Lib.hid (t.blk (.inl (Nat.lt_of_lt_of_le ZS5.out (Nat.le_trans Z6.out Z7.out))) Ku13.out)
  clear Ku13
  have Kg14 := Lib.hid (t.blk (.inr (Nat.le_refl _)) Kg13.out)
  clear Kg13
  have Og14 := Lib.hid ho
  have Ogh14 := Lib.hid (Nat.le_trans Ogh13.out t.size)
  clear Og13 Ogh13 ho
  clear t
  obtain ⟨gk0, gk1, gk2, gk3, gk4, gk5, gk6, gk7⟩ := vec8 Kg14.out
  go_wp2_with fail
  with_reducible refine (HV.out _ _ _ _ Og14.out Ogh14.out).mono ?_
  rintro e w14 ⟨rfl, b⟩
  try clear hzg
  clear gk0 gk1 gk2 gk3 gk4 gk5 gk6 gk7
  have Z15 := Lib.hid b.size
  have B15 := Lib.hid (below_then B14.out b)
  have Kp015 := Lib.hid (blk_below b Kp014.out)
  clear Kp014
  have Ou15 := Lib.hid (Ou14.out.below b Ouh14.out)
  have Ouh15 := Lib.hid (Nat.le_trans Ouh14.out b.size)
  clear Ou14 Ouh14
  have Ku15 := Lib.hid (blk_below b Ku14.out)
  clear Ku14
  have Og15 := Lib.hid (Og14.out.below b Ogh14.out)
  have Ogh15 := Lib.hid (Nat.le_trans Ogh14.out b.size)
  clear Og14 Ogh14
  have Kg15 := Lib.hid (blk_below b Kg14.out)
  clear Kg14
  clear b
  obtain ⟨p0k0, p0k1, p0k2, p0k3, p0k4, p0k5, p0k6, p0k7⟩ := vec8 Kp015.out
  go_wp2_with fail
  with_reducible refine (TO0.out _ B15.out).mono ?_
  rintro e w15 ⟨y, rfl, ho, b⟩
  obtain ⟨t0k, t0a1, t0n1, t0m1, t0a2, t0n2, t0m2, t0a3, t0n3, t0m3, t0a4, t0n4, t0m4, t0a5, t0n5, t0m5, t0c, t0e, rfl⟩ := ho.agg
  try clear hzp0
  clear p0k0 p0k1 p0k2 p0k3 p0k4 p0k5 p0k6 p0k7
  have Z16 := Lib.hid b.size
  have B16 := Lib.hid (below_then B15.out b)
  have Kp016 := Lib.hid (blk_below b Kp015.out)
  clear Kp015
  have Ou16 := Lib.hid (Ou15.out.below b Ouh15.out)
  have Ouh16 := Lib.hid (Nat.le_trans Ouh15.out b.size)
  clear Ou15 Ouh15
  have Ku16 := Lib.hid (blk_below b Ku15.out)
  clear Ku15
  have Og16 := Lib.hid (Og15.out.below b Ogh15.out)
  have Ogh16 := Lib.hid (Nat.le_trans Ogh15.out b.size)
  clear Og15 Ogh15
  have Kg16 := Lib.hid (blk_below b Kg15.out)
  clear Kg15
  clear b
  have Ot016 := Lib.hid (ho)
  have Ot0h16 := Lib.hid ((Nat.le_refl _) : w15.heap.size ≤ w15.heap.size)
  clear ho
  go_wp2_with fail
  with_reducible refine (IM.out _ _ (Ot016.out.vat Ot0h16.out) B16.out).mono ?_
  rintro e w16 ⟨y, rfl, ho, b⟩
  obtain ⟨hk, ha1, hn1, hm1, ha2, hn2, hm2, ha3, hn3, hm3, ha4, hn4, hm4, ha5, hn5, hm5, hc, he, rfl⟩ := ho.agg
  have Z17 := Lib.hid b.size
  have B17 := Lib.hid (below_then B16.out b)
  have Kp017 := Lib.hid (blk_below b Kp016.out)
  clear Kp016
  have Ou17 := Lib.hid (Ou16.out.below b Ouh16.out)
  have Ouh17 := Lib.hid (Nat.le_trans Ouh16.out b.size)
  clear Ou16 Ouh16
  have Ku17 := Lib.hid (blk_below b Ku16.out)
  clear Ku16
  have Og17 := Lib.hid (Og16.out.below b Ogh16.out)
  have Ogh17 := Lib.hid (Nat.le_trans Ogh16.out b.size)
  clear Og16 Ogh16
  have Kg17 := Lib.hid (blk_below b Kg16.out)
  clear Kg16
  have Ot017 := Lib.hid (Ot016.out.below b Ot0h16.out)
  have Ot0h17 := Lib.hid (Nat.le_trans Ot0h16.out b.size)
  clear Ot016 Ot0h16
  clear b
  have Oh17 := Lib.hid (ho)
  have Ohh17 := Lib.hid ((Nat.le_refl _) : w16.heap.size ≤ w16.heap.size)
  clear ho
  clear Ot017 Ot0h17
  obtain ⟨uk0, uk1, uk2, uk3, uk4, uk5, uk6, uk7⟩ := vec8 Ku17.out
  have hzu := (Array.getElem?_eq_some_iff.1 Ku17.out).1
  go_wp2_with fail
  obtain ⟨w17, hW⟩ : ∃ W, w16.alloc (.cells #[.int .i64 hk, .slice ha1 hn1 hm1, .slice ha2 hn2 hm2, .slice ha3 hn3 hm3, .slice ha4 hn4 hm4, .slice ha5 hn5 hm5, .int .i64 hc, .int .i64 he] 32) = W := ⟨_, rfl⟩
  have b : Below w16.heap.size w16 w17 := hW ▸ below1 w16 _
  have kb : w17.heap[w16.heap.size]? = some (.cells #[.int .i64 hk, .slice ha1 hn1 hm1, .slice ha2 hn2 hm2, .slice ha3 hn3 hm3, .slice ha4 hn4 hm4, .slice ha5 hn5 hm5, .int .i64 hc, .int .i64 he] 32 (0, 0)) := hW ▸ blk_new w16 _ rfl
  rw [hW]
  clear hW
  have Z18 := Lib.hid b.size
  have B18 := Lib.hid (below_then B17.out b)
  have Kp018 := Lib.hid (blk_below b Kp017.out)
  clear Kp017
  have Ou18 := Lib.hid (Ou17.out.below b Ouh17.out)
  have Ouh18 := Lib.hid (Nat.le_trans Ouh17.out b.size)
  clear Ou17 Ouh17
  have Ku18 := Lib.hid (blk_below b Ku17.out)
  clear Ku17
  have Og18 := Lib.hid (Og17.out.below b Ogh17.out)
  have Ogh18 := Lib.hid (Nat.le_trans Ogh17.out b.size)
  clear Og17 Ogh17
  have Kg18 := Lib.hid (blk_below b Kg17.out)
  clear Kg17
  have Oh18 := Lib.hid (Oh17.out.below b Ohh17.out)
  have Ohh18 := Lib.hid (Nat.le_trans Ohh17.out b.size)
  clear Oh17 Ohh17
  clear b
  have ZS18 := Lib.hid (Array.getElem?_eq_some_iff.1 kb).1
  have Kh18 := Lib.hid (kb)
  clear kb
  with_reducible refine (EQ.out _ _ _ (Oh18.out.vat Ohh18.out) (Ou18.out.vat Ouh18.out)).mono ?_
  rintro e w18 ⟨rfl, b⟩
  try clear hzu
  clear uk0 uk1 uk2 uk3 uk4 uk5 uk6 uk7
  have Z19 := Lib.hid b.size
  have B19 := Lib.hid (below_then B18.out b)
  have Kp019 := Lib.hid (blk_below b Kp018.out)
  clear Kp018
  have Ou19 := Lib.hid (Ou18.out.below b Ouh18.out)
  have Ouh19 := Lib.hid (Nat.le_trans Ouh18.out b.size)
  clear Ou18 Ouh18
  have Ku19 := Lib.hid (blk_below b Ku18.out)
  clear Ku18
  have Og19 := Lib.hid (Og18.out.below b Ogh18.out)
  have Ogh19 := Lib.hid (Nat.le_trans Ogh18.out b.size)
  clear Og18 Ogh18
  have Kg19 := Lib.hid (blk_below b Kg18.out)
  clear Kg18
  have Oh19 := Lib.hid (Oh18.out.below b Ohh18.out)
  have Ohh19 := Lib.hid (Nat.le_trans Ohh18.out b.size)
  clear Oh18 Ohh18
  have Kh19 := Lib.hid (blk_below b Kh18.out)
  clear Kh18
  clear b
  obtain ⟨gk0, gk1, gk2, gk3, gk4, gk5, gk6, gk7⟩ := vec8 Kg19.out
  go_wp2_with fail
  with_reducible refine (HV.out _ _ _ _ Og19.out Ogh19.out).mono ?_
  rintro e w19 ⟨rfl, b⟩
  try clear hzg
  clear gk0 gk1 gk2 gk3 gk4 gk5 gk6 gk7
  have Z20 := Lib.hid b.size
  have B20 := Lib.hid (below_then B19.out b)
  have Kp020 := Lib.hid (blk_below b Kp019.out)
  clear Kp019
  have Ou20 := Lib.hid (Ou19.out.below b Ouh19.out)
  have Ouh20 := Lib.hid (Nat.le_trans Ouh19.out b.size)
  clear Ou19 Ouh19
  have Ku20 := Lib.hid (blk_below b Ku19.out)
  clear Ku19
  have Og20 := Lib.hid (Og19.out.below b Ogh19.out)
  have Ogh20 := Lib.hid (Nat.le_trans Ogh19.out b.size)
  clear Og19 Ogh19
  have Kg20 := Lib.hid (blk_below b Kg19.out)
  clear Kg19
  have Oh20 := Lib.hid (Oh19.out.below b Ohh19.out)
  have Ohh20 := Lib.hid (Nat.le_trans Ohh19.out b.size)
  clear Oh19 Ohh19
  have Kh20 := Lib.hid (blk_below b Kh19.out)
  clear Kh19
  clear b
  go_wp2
  go_ret
  exact ⟨rfl, B20.out⟩

set_option maxRecDepth 100000 in
theorem contract (H : Type) (enc : TypeId × Value → H) (W : World) (base : Nat) (args : Array Value) (ds gs : List (DataW H)) (before : List MemPlace)
    (hval : ∀ (j : Nat) t v, Tryz.f4.params[j]? = some t → args[j]? = some v → Value.okWide Tryz.prog W .any base t v)
    (hW : DataW.Whole enc Tryz.prog Tryz.f4.params.toList Rows.fnExactDropLevelsSpec.vars false W args.toList ds gs before) (hL : laidMetH Tryz.prog Rows.fnExactDropLevelsRow.laid W) (hsh : W.ShapedOpen Tryz.prog) :
    Calls Tryz.prog 4 args W fun e W' => ∃ v, e = .returned v ∧ Rows.fnExactDropLevelsSpec.post enc Tryz.prog Tryz.f4 false true false false W args v W' := by
  have hW' := hW
  obtain ⟨p, q, hA0, hV, rfl, hfz, hnd⟩ := hW
  have hA : DataW.TrodAll enc Tryz.prog W 0 (fun _ => true) true Tryz.f4.params.toList args.toList ds p := hA0
  rw [Tryz.params4] at hA hval
  obtain ⟨v0, vs0, d0, ds0, p0, q0, hargs0, rfl, rfl, h0, r0⟩ := trodAll_cons hA
  obtain ⟨hnil, rfl, rfl⟩ := trodAll_nil r0
  have eargs : args.toList = [v0] := by rw [hargs0, hnil]
  obtain rfl : args = #[v0] := Array.toList_inj.1 eargs
  obtain ⟨rfl, rfl⟩ := trodVars_none hV
  have k0 := h0
  have lt0 : ∀ x ∈ p0, x.block < W.heap.size := by obtain ⟨m, hm⟩ := k0; exact DataW.trod_lt m _ _ _ hm
  clear hA0 eargs hargs0
  obtain ⟨d0, x0, hv0, hf0⟩ := vec_in (hval 0 26 v0 rfl rfl) h0
  have hl : laidMet Tryz.prog Rows.fnExactDropLevelsRow.laid W := (MakeChecks.laidMetH_plain Tryz.prog Rows.fnExactDropLevelsRow.laid W (by kernel_rfl)) ▸ hL
  refine (walk x0 d0 v0 W hv0 hf0 (powOf hl) hsh).mono fun e W' ⟨he, bel⟩ => ?_
  subst he
  have kp0 := Below.trod laidOut (show Tryz.prog.readableRec 26 = true by kernel_rfl) (of_decide_eq_true (by kernel_rfl)) k0 bel lt0
  exact ⟨_, rfl, _, _, _, [], _, [], hW', trodAll_mk1 (shut_bool Tryz.underlying4 _), (trodAll_cons_mk kp0 trodAll_mk0), rfl, bel.frame _, fun h => by cases h⟩

/-- The heap that the program's own initialisers leave meets the list. -/
theorem door_met (os : Os) (args : Array Value) : laidMetH Tryz.prog Rows.fnExactDropLevelsRow.laid ((World.doorLaid Tryz.prog 65 os).forCall (fun _ _ => 0) ⟨#[], args, []⟩).memory :=
  laidMetH_of_parts3 (fuel := 8) (laidMet_of_run' 8 (by kernel_rfl) (by kernel_rfl)) (by kernel_rfl) (by kernel_rfl)
theorem reads (os : Os) {H : Type} (enc : TypeId × Value → H) : ∃ places, DataW.whole enc Tryz.prog ((World.doorLaid Tryz.prog 65 os).forCall (fun _ _ => 0) ⟨#[], #[.agg #[.int .i64 0, .slice none 0 0, .slice none 0 0, .slice none 0 0, .slice none 0 0, .slice none 0 0, .int .i64 0, .int .i64 0]], []⟩).memory Tryz.f4.params.toList Rows.fnExactDropLevelsSpec.vars false #[.agg #[.int .i64 0, .slice none 0 0, .slice none 0 0, .slice none 0 0, .slice none 0 0, .slice none 0 0, .int .i64 0, .int .i64 0]].toList 8 = some ([.agg [.lit (.int .i64 0), .nil, .nil, .nil, .nil, .nil, .lit (.int .i64 0), .lit (.int .i64 0)]], [], places) :=
  ⟨[], by kernel_rfl⟩

set_option maxRecDepth 100000 in
theorem lifted (os : Os) (started : os.Started) (H : Type) (enc : TypeId × Value → H) (F : Stop.Interp) :
    ReturnsInHanded {} Tryz.checked os 4 .any ((OpenSpec.ofChange Rows.fnExactDropLevelsSpec).preRow enc Tryz.prog Tryz.f4 Rows.fnExactDropLevelsRow.domain false Rows.fnExactDropLevelsRow.laid) (((OpenSpec.ofChange Rows.fnExactDropLevelsSpec).at F).post enc Tryz.prog Tryz.f4 false true false false) := by
  obtain ⟨places, hx⟩ := reads os enc
  refine returnsInHanded_of_row (C := Tryz.checked) (s := OpenSpec.ofChange Rows.fnExactDropLevelsSpec) own started (by kernel_rfl) Tryz.func4
    ⟨World.doorLaid Tryz.prog 65 os, fun _ _ => 0, ⟨#[], #[.agg #[.int .i64 0, .slice none 0 0, .slice none 0 0, .slice none 0 0, .slice none 0 0, .slice none 0 0, .int .i64 0, .int .i64 0]], []⟩, rfl, World.shaped_of_RefB (by kernel_rfl) (by kernel_rfl), rfl, (Input.okWide_of_okWideB (by kernel_rfl)).2,
      OpenSpec.preRow_of_cond 8 hx (by kernel_rfl) (fun k hk => by cases hk) (by kernel_rfl) (door_met os _), by simp [Assume.holds]⟩ ?_
  intro W base args ds gs before hval hW _ _ _ hL hsh _
  exact contract H enc W base args ds gs before hval hW hL hsh

theorem said : Rows.FnExactDropLevelsSaid :=
  OpenClaim.holds_of_cond 4 Tryz.f4 rfl rfl rfl rfl rfl rfl rfl ⟨rfl, rfl, rfl, rfl, rfl⟩ rfl rfl rfl rfl rfl (by kernel_rfl) Tryz.func4 (by kernel_rfl)
    (of_decide_eq_true (by kernel_rfl)) (by unfold Func.isWrapper; first | (rw [if_pos (by decide +kernel)]; kernel_rfl) | (rw [if_neg (by decide +kernel)]; exact ⟨rfl, rfl⟩))
    (fun os started H enc _ F => by rw [OpenClaim.pre_eq_preRow]; exact lifted os started H enc F)

theorem plain (f : FuncId) (fn : Func) (hf : Tryz.pinned.checked.prog.funcNamed "loop.example/g03406/laws.FnExactDropLevels" = some f) (hfn : Tryz.pinned.checked.prog.funcs[f]? = some fn) :
    false = Tryz.pinned.checked.prog.looks [] ∧ ∀ (j : Nat) t, fn.params[j]? = some t → Tryz.pinned.checked.prog.wantsStandIn t = false := by
  obtain rfl : f = 4 := Option.some.inj ((show Tryz.prog.funcNamed "loop.example/g03406/laws.FnExactDropLevels" = some 4 by kernel_rfl).symm.trans hf) |>.symm
  obtain rfl : fn = Tryz.f4 := (Option.some.inj (Tryz.func4.symm.trans hfn)).symm
  refine ⟨by kernel_rfl, fun j t ht => ?_⟩
  rw [Tryz.params4] at ht
  have hm := Array.mem_of_getElem? ht
  simp at hm
  rcases hm with rfl
  · exact (show Tryz.prog.wantsStandIn 26 = false by kernel_rfl)

theorem card : Rows.FnExactDropLevelsCardSaid :=
  Claim7.holds_tied_plain_at .later [] _ _ _ _ said (fun _ h => by cases h) (by kernel_rfl) (fun _ h => by cases h) fnExactDropLevels_row_tie rfl ⟨rfl, rfl⟩ (by kernel_rfl) rfl plain (by kernel_rfl)
end Go.Proofs.YtddebgmjolojeaaGreatDoor.fnExactDropLevels
