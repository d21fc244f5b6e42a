/- Called with any arguments (vectors, vectors), the law FnExactMatchIn returns true and leaves everything as it was. Condition: the listed package-level variables read as the program's own initialisers lay them (the card ties them). -/
import Derived.Test.YtikgcogiiohahaaGreatDoorRows
import Derived.Test.YtikgcogiiohahaaGreatDoorCards
import Derived.Test.YtikgcogiiohahaaGreatDoorTie
import Derived.Test.YtikgcogiiohahaaGreatDoorMm1
import Derived.Test.YtikgcogiiohahaaGreatDoorMm3
import Derived.Test.YtikgcogiiohahaaGreatDoorMm2
import Derived.WalkKit
import Derived.ProofKit
import Derived.OpenShut
import Derived.ShutString
import Derived.ChangeOld
import Derived.Carry
import Derived.Below
import Derived.LaidMore
import Derived.Deep.DeepHandedRow
import Derived.Stop.Joined
import Derived.SevenTiedAt
namespace Go.Proofs.YtikgcogiiohahaaGreatDoor.fnExactMatchIn
open Go.ChangeShapes Go.WideShapes Go.ChangeAt Go.RowKit
open Go.ChangeMaps (open_string shut_string)
set_option linter.unusedVariables false

theorem laidOut : laidOutB Tryz.prog = true := by kernel_rfl
theorem own : ownKnob Tryz.prog.godebug = none := by kernel_rfl

theorem fst_ex (l : List It) (x : It) : ∃ r, FirstIs l x r := by
  have h : ∀ n, n ≤ l.length → (∀ i, i < n → l.getD i noI ≠ x) ∨ ∃ j, j < n ∧ l.getD j noI = x ∧ ∀ i, i < j → l.getD i noI ≠ x := by
    intro n
    induction n with
    | zero => exact fun _ => .inl (fun i hi => absurd hi (Nat.not_lt_zero _))
    | succ n ih =>
      intro hn
      rcases ih (by omega) with h | ⟨j, hj, e, hm⟩
      · by_cases q : l.getD n noI = x
        · exact .inr ⟨n, Nat.lt_succ_self _, q, h⟩
        · refine .inl (fun i hi => ?_)
          by_cases e : i = n
          · rw [e]; exact q
          · exact h i (by omega)
      · exact .inr ⟨j, by omega, e, hm⟩
  rcases h l.length (Nat.le_refl _) with h | ⟨j, hj, e, hm⟩
  · exact ⟨-1, .inl ⟨rfl, h⟩⟩
  · exact ⟨j, .inr ⟨j, rfl, hj, e, hm⟩⟩
theorem pos_in {r : Int} (h1 : -1 ≤ r) (h2 : r ≤ 1048576) : InB (posI r) ∧ (posI r).t.size ≤ 1048576 := by
  by_cases h : r < 0
  · rw [posI_no h]
    exact ⟨inB_noI, Nat.zero_le _⟩
  · rw [posI_yes h]
    exact ⟨⟨⟨by show (-9223372036854775808 : Int) ≤ r + 1; omega, by show r + 1 ≤ (9223372036854775807 : Int); omega⟩, ⟨by show (-9223372036854775808 : Int) ≤ 1; decide, by show (1 : Int) ≤ 9223372036854775807; decide⟩, Nat.zero_le _⟩, Nat.zero_le _⟩
theorem mat_plain {v t : Vec} : PlainN (matV v t) := by
  by_cases h : matS v t = ⟨#[]⟩
  · obtain ⟨a, b⟩ := mat_both h
    rw [mat_yes h]
    have l2 : (chP t (chK v t)).length ≤ 40 := by rw [chP_len]; exact (atm_vec b).len
    refine .inr ⟨_, _, _, rfl, by decide, by rw [itF_len]; exact (atm_vec a).len, fun x hx => ?_, Nat.zero_le _, fun s hs => by cases hs⟩
    obtain ⟨i, _, rfl⟩ := mem_itF hx
    obtain ⟨r, hr⟩ := fst_ex (chP t (chK v t)) ((chP v (chK v t)).getD i noI)
    have hb := fst_bound hr
    unfold matI
    rw [← fst_eq hr]
    exact pos_in hb.1 (by omega)
  · rw [mat_no h]; exact .inl rfl

set_option maxHeartbeats 8000000 in
set_option maxRecDepth 100000 in
theorem walk (x0 : Vec) (d0 : Nat) (y0 : Value) (x1 : Vec) (d1 : Nat) (y1 : Value) (w : World) (hv0 : VecAt 0 w.heap.size w d0 x0 y0) (hf0 : Fits d0 x0) (hv1 : VecAt 0 w.heap.size w d1 x1 y1) (hf1 : Fits d1 x1) (tab : Lib.TabIs Tryz.prog w "internal/strconv.uint64pow10" .u64 Lib.pow10Tab) (hsh : w.ShapedOpen Tryz.prog) :
    Calls Tryz.prog 3 #[y0, y1] w fun e w' => e = .returned (.bool true) ∧ Below w.heap.size w w' := by
  have SZ0 := Lib.hid (fun (w1 : World) (hb : Below w.heap.size w w1) => (szAll d0).out x0 y0 (1048576) 0 w.heap.size w1 (hv0.below hb (Nat.le_refl _)) hb.size hf0 (by omega) (by omega))
  by_cases hb0 : 1048576 < wV d0 x0
  · rw [szL_no (show (1048576) < (wV d0 x0 : Int) by omega)] at SZ0
    clear hb0 tab hsh 
    obtain ⟨p0k, p0a1, p0n1, p0m1, p0a2, p0n2, p0m2, p0a3, p0n3, p0m3, p0a4, p0n4, p0m4, p0a5, p0n5, p0m5, p0c, p0e, rfl⟩ := hv0.agg
    obtain ⟨p1k, p1a1, p1n1, p1m1, p1a2, p1n2, p1m2, p1a3, p1n3, p1m3, p1a4, p1n4, p1m4, p1a5, p1n5, p1m5, p1c, p1e, rfl⟩ := hv1.agg
    clear hv0 hf0 hv1 hf1
    go_enter Tryz.func3, Tryz.ntmps3
    go_wp2_with fail
    obtain ⟨w0_, hW⟩ : ∃ W, (w.alloc (.cells #[.int .i64 p0k, .slice p0a1 p0n1 p0m1, .slice p0a2 p0n2 p0m2, .slice p0a3 p0n3 p0m3, .slice p0a4 p0n4 p0m4, .slice p0a5 p0n5 p0m5, .int .i64 p0c, .int .i64 p0e] 26)).alloc (.cells #[.int .i64 p1k, .slice p1a1 p1n1 p1m1, .slice p1a2 p1n2 p1m2, .slice p1a3 p1n3 p1m3, .slice p1a4 p1n4 p1m4, .slice p1a5 p1n5 p1m5, .int .i64 p1c, .int .i64 p1e] 26) = W := ⟨_, rfl⟩
    have hz1 : (w.alloc (.cells #[.int .i64 p0k, .slice p0a1 p0n1 p0m1, .slice p0a2 p0n2 p0m2, .slice p0a3 p0n3 p0m3, .slice p0a4 p0n4 p0m4, .slice p0a5 p0n5 p0m5, .int .i64 p0c, .int .i64 p0e] 26)).heap.size = w.heap.size + 1 := by simp
    have b : Below w.heap.size w w0_ := hW ▸ below2 w _ _
    have kb0 : w0_.heap[w.heap.size]? = some (.cells #[.int .i64 p0k, .slice p0a1 p0n1 p0m1, .slice p0a2 p0n2 p0m2, .slice p0a3 p0n3 p0m3, .slice p0a4 p0n4 p0m4, .slice p0a5 p0n5 p0m5, .int .i64 p0c, .int .i64 p0e] 26 (0, 0)) := by rw [← hW]; exact blk_old (blk_new w _ rfl)
    have kb1 : w0_.heap[w.heap.size + 1]? = some (.cells #[.int .i64 p1k, .slice p1a1 p1n1 p1m1, .slice p1a2 p1n2 p1m2, .slice p1a3 p1n3 p1m3, .slice p1a4 p1n4 p1m4, .slice p1a5 p1n5 p1m5, .int .i64 p1c, .int .i64 p1e] 26 (0, 0)) := by rw [← hW]; exact blk_new _ _ hz1.symm
    rw [hW]
    have B0 := Lib.hid b
    clear b hW hz1
    with_reducible refine (SZ0.out _ B0.out).mono ?_
    rintro e w1 ⟨rfl, b⟩
    have B1 := Lib.hid (below_then B0.out b)
    clear b
    go_wp2
    go_ret
    exact ⟨rfl, B1.out⟩
  rw [szL_yes (show (wV d0 x0 : Int) ≤ 1048576 by omega)] at SZ0
  have SZ1 := Lib.hid (fun (w1 : World) (hb : Below w.heap.size w w1) => (szAll d1).out x1 y1 (1048576 - (wV d0 x0 : Int)) 0 w.heap.size w1 (hv1.below hb (Nat.le_refl _)) hb.size hf1 (by omega) (by omega))
  by_cases hb1 : 1048576 < wV d0 x0 + wV d1 x1
  · rw [szL_no (show (1048576 - (wV d0 x0 : Int)) < (wV d1 x1 : Int) by omega)] at SZ1
    obtain ⟨q0, hq0⟩ : ∃ q, wV d0 x0 = q := ⟨_, rfl⟩
    rw [hq0] at SZ0 hb0 SZ1
    clear hb1 tab hsh hq0
    obtain ⟨p0k, p0a1, p0n1, p0m1, p0a2, p0n2, p0m2, p0a3, p0n3, p0m3, p0a4, p0n4, p0m4, p0a5, p0n5, p0m5, p0c, p0e, rfl⟩ := hv0.agg
    obtain ⟨p1k, p1a1, p1n1, p1m1, p1a2, p1n2, p1m2, p1a3, p1n3, p1m3, p1a4, p1n4, p1m4, p1a5, p1n5, p1m5, p1c, p1e, rfl⟩ := hv1.agg
    clear hv0 hf0 hv1 hf1
    go_enter Tryz.func3, Tryz.ntmps3
    go_wp2_with fail
    obtain ⟨w0_, hW⟩ : ∃ W, (w.alloc (.cells #[.int .i64 p0k, .slice p0a1 p0n1 p0m1, .slice p0a2 p0n2 p0m2, .slice p0a3 p0n3 p0m3, .slice p0a4 p0n4 p0m4, .slice p0a5 p0n5 p0m5, .int .i64 p0c, .int .i64 p0e] 26)).alloc (.cells #[.int .i64 p1k, .slice p1a1 p1n1 p1m1, .slice p1a2 p1n2 p1m2, .slice p1a3 p1n3 p1m3, .slice p1a4 p1n4 p1m4, .slice p1a5 p1n5 p1m5, .int .i64 p1c, .int .i64 p1e] 26) = W := ⟨_, rfl⟩
    have hz1 : (w.alloc (.cells #[.int .i64 p0k, .slice p0a1 p0n1 p0m1, .slice p0a2 p0n2 p0m2, .slice p0a3 p0n3 p0m3, .slice p0a4 p0n4 p0m4, .slice p0a5 p0n5 p0m5, .int .i64 p0c, .int .i64 p0e] 26)).heap.size = w.heap.size + 1 := by simp
    have b : Below w.heap.size w w0_ := hW ▸ below2 w _ _
    have kb0 : w0_.heap[w.heap.size]? = some (.cells #[.int .i64 p0k, .slice p0a1 p0n1 p0m1, .slice p0a2 p0n2 p0m2, .slice p0a3 p0n3 p0m3, .slice p0a4 p0n4 p0m4, .slice p0a5 p0n5 p0m5, .int .i64 p0c, .int .i64 p0e] 26 (0, 0)) := by rw [← hW]; exact blk_old (blk_new w _ rfl)
    have kb1 : w0_.heap[w.heap.size + 1]? = some (.cells #[.int .i64 p1k, .slice p1a1 p1n1 p1m1, .slice p1a2 p1n2 p1m2, .slice p1a3 p1n3 p1m3, .slice p1a4 p1n4 p1m4, .slice p1a5 p1n5 p1m5, .int .i64 p1c, .int .i64 p1e] 26 (0, 0)) := by rw [← hW]; exact blk_new _ _ hz1.symm
    rw [hW]
    have B0 := Lib.hid b
    clear b hW hz1
    with_reducible refine (SZ0.out _ B0.out).mono ?_
    rintro e w1 ⟨rfl, b⟩
    have B1 := Lib.hid (below_then B0.out b)
    have kb1 := blk_below b kb1
    clear b
    have KB1 := Lib.hid kb1
    clear kb1
    obtain ⟨k0, k1, k2, k3, k4, k5, k6, k7⟩ := vec8 KB1.out
    go_wp2_with fail
    with_reducible refine (SZ1.out _ B1.out).mono ?_
    rintro e w2 ⟨rfl, b⟩
    have B2 := Lib.hid (below_then B1.out b)
    clear k0 k1 k2 k3 k4 k5 k6 k7
    clear b
    go_wp2
    go_ret
    exact ⟨rfl, B2.out⟩
  rw [szL_yes (show (wV d1 x1 : Int) ≤ 1048576 - (wV d0 x0 : Int) by omega)] at SZ1
  have hsm0 := small_of d0 x0 hf0 (by omega)
  have TO0 := Lib.hid (fun (w1 : World) (hb : Below w.heap.size w w1) => toVecR d0 x0 y0 0 w.heap.size w1 (hv0.below hb (Nat.le_refl _)) hb.size hsm0)
  have QX0 := Lib.hid (fun (w1 : World) (x y : Value) (h : VecAt 0 w1.heap.size w1 d0 x0 x) (k : VecAt 0 w1.heap.size w1 d0 x0 y) => (eqAll d0).out x0 x y 0 w1.heap.size 0 w1.heap.size w1 h (Nat.le_refl _) k (Nat.le_refl _) hf0)
  have hcm0 := cntM_le d0 x0
  have hsm1 := small_of d1 x1 hf1 (by omega)
  have TO1 := Lib.hid (fun (w1 : World) (hb : Below w.heap.size w w1) => toVecR d1 x1 y1 0 w.heap.size w1 (hv1.below hb (Nat.le_refl _)) hb.size hsm1)
  have QX1 := Lib.hid (fun (w1 : World) (x y : Value) (h : VecAt 0 w1.heap.size w1 d1 x1 x) (k : VecAt 0 w1.heap.size w1 d1 x1 y) => (eqAll d1).out x1 x y 0 w1.heap.size 0 w1.heap.size w1 h (Nat.le_refl _) k (Nat.le_refl _) hf1)
  have hcm1 := cntM_le d1 x1
  have MX0 := Lib.hid (fun (w1 : World) (y : Value) (lo hi : Nat) (h : Own d0 x0 y lo hi w1) (hh : hi ≤ w1.heap.size) => markOwnX d0 x0 y lo hi w1 h hh hsm0 (by omega))
  have MX1 := Lib.hid (fun (w1 : World) (y : Value) (lo hi : Nat) (h : Own d1 x1 y lo hi w1) (hh : hi ≤ w1.heap.size) => markOwnK d1 x1 y (1 + cntM d0 x0) lo hi w1 h hh hsm1 (by omega) (by omega))
  have SP := Lib.hid (fun (w1 : World) (z0 z1 : Value) (h0 : VecAt 0 w1.heap.size w1 d0 x0 z0) (h1 : VecAt 0 w1.heap.size w1 d1 x1 z1) (hb : Below w.heap.size w w1) => specMatch d0 d1 x0 x1 z0 z1 0 w1.heap.size w1 h0 h1 (Nat.le_refl _) hsm0 hsm1)
  have IM := Lib.hid (fun (w1 : World) (z0 z1 : Value) (h0 : VecAt 0 w1.heap.size w1 d0 x0 z0) (h1 : VecAt 0 w1.heap.size w1 d1 x1 z1) (hb : Below w.heap.size w w1) => implMatch d0 d1 x0 x1 z0 z1 0 w1.heap.size w1 h0 h1 (Nat.le_refl _) hsm0 hsm1 (tab_below tab hb))
  have PV := mat_plain (v := x0) (t := x1)
  have HS0 := PV.small
  have HF0 := PV.fits
  have HC0 := PV.cnt
  obtain ⟨V, hV⟩ : ∃ V, matV x0 x1 = V := ⟨_, rfl⟩
  obtain ⟨sv, hs⟩ : ∃ s, matS x0 x1 = s := ⟨_, rfl⟩
  rw [hV] at SP IM HS0 HF0 HC0
  rw [hs] at SP IM
  clear hV hs PV hsm0 hsm1 hcm0 hcm1 tab hsh
  obtain ⟨c0, hc0⟩ : ∃ c, 1 + cntM d0 x0 = c := ⟨_, rfl⟩
  rw [hc0] at MX0 MX1
  obtain ⟨c1, hc1⟩ : ∃ c, c0 + cntM d1 x1 = c := ⟨_, rfl⟩
  rw [hc1] at MX1
  clear hc0 hc1
  obtain ⟨q0, hq0⟩ : ∃ q, wV d0 x0 = q := ⟨_, rfl⟩
  rw [hq0] at SZ0 hb0 SZ1 hb1
  obtain ⟨q1, hq1⟩ : ∃ q, wV d1 x1 = q := ⟨_, rfl⟩
  rw [hq1] at SZ1 hb1
  clear hq0 hq1
  have SMV := Lib.hid (HS0)
  have FTV := Lib.hid (HF0)
  have CMV := Lib.hid (HC0)
  have EQ := Lib.hid (fun (w1 : World) (x y : Value) (h : VecAt 0 w1.heap.size w1 1 V x) (k : VecAt 0 w1.heap.size w1 1 V y) => (eqAll 1).out V x y 0 w1.heap.size 0 w1.heap.size w1 h (Nat.le_refl _) k (Nat.le_refl _) FTV.out)
  have MV := Lib.hid (fun (w1 : World) (y : Value) (lo hi : Nat) (h : Own 1 V y lo hi w1) (hh : hi ≤ w1.heap.size) => markOwn 1 V y lo hi w1 h hh SMV.out CMV.out)
  have HV := Lib.hid (fun (w1 : World) (y : Value) (lo hi : Nat) (h : Own 1 (markV 1 1 V) y lo hi w1) (hh : hi ≤ w1.heap.size) => heldOwn 1 V y lo hi w1 h hh SMV.out CMV.out)
  clear SMV FTV CMV
  obtain ⟨cm, hcm'⟩ : ∃ c, 1 + cntM 1 V = c := ⟨_, rfl⟩
  rw [hcm'] at MV HV
  clear hcm'
  clear HS0 HF0 HC0 hf0 hf1
  obtain ⟨p0k, p0a1, p0n1, p0m1, p0a2, p0n2, p0m2, p0a3, p0n3, p0m3, p0a4, p0n4, p0m4, p0a5, p0n5, p0m5, p0c, p0e, rfl⟩ := hv0.agg
  obtain ⟨p1k, p1a1, p1n1, p1m1, p1a2, p1n2, p1m2, p1a3, p1n3, p1m3, p1a4, p1n4, p1m4, p1a5, p1n5, p1m5, p1c, p1e, rfl⟩ := hv1.agg
  clear hv0 hv1
  go_enter Tryz.func3, Tryz.ntmps3
  go_wp2_with fail
  obtain ⟨w1, hW⟩ : ∃ W, (w.alloc (.cells #[.int .i64 p0k, .slice p0a1 p0n1 p0m1, .slice p0a2 p0n2 p0m2, .slice p0a3 p0n3 p0m3, .slice p0a4 p0n4 p0m4, .slice p0a5 p0n5 p0m5, .int .i64 p0c, .int .i64 p0e] 26)).alloc (.cells #[.int .i64 p1k, .slice p1a1 p1n1 p1m1, .slice p1a2 p1n2 p1m2, .slice p1a3 p1n3 p1m3, .slice p1a4 p1n4 p1m4, .slice p1a5 p1n5 p1m5, .int .i64 p1c, .int .i64 p1e] 26) = W := ⟨_, rfl⟩
  have hz1 : (w.alloc (.cells #[.int .i64 p0k, .slice p0a1 p0n1 p0m1, .slice p0a2 p0n2 p0m2, .slice p0a3 p0n3 p0m3, .slice p0a4 p0n4 p0m4, .slice p0a5 p0n5 p0m5, .int .i64 p0c, .int .i64 p0e] 26)).heap.size = w.heap.size + 1 := by simp
  have b : Below w.heap.size w w1 := hW ▸ below2 w _ _
  have kb0 : w1.heap[w.heap.size]? = some (.cells #[.int .i64 p0k, .slice p0a1 p0n1 p0m1, .slice p0a2 p0n2 p0m2, .slice p0a3 p0n3 p0m3, .slice p0a4 p0n4 p0m4, .slice p0a5 p0n5 p0m5, .int .i64 p0c, .int .i64 p0e] 26 (0, 0)) := by rw [← hW]; exact blk_old (blk_new w _ rfl)
  have kb1 : w1.heap[w.heap.size + 1]? = some (.cells #[.int .i64 p1k, .slice p1a1 p1n1 p1m1, .slice p1a2 p1n2 p1m2, .slice p1a3 p1n3 p1m3, .slice p1a4 p1n4 p1m4, .slice p1a5 p1n5 p1m5, .int .i64 p1c, .int .i64 p1e] 26 (0, 0)) := by rw [← hW]; exact blk_new _ _ hz1.symm
  rw [hW]
  clear hW hz1
  have Z1 := Lib.hid b.size
  have B1 := Lib.hid (below_then (Below.refl _ _) b)
  clear b
  have ZSp0 := Lib.hid (Array.getElem?_eq_some_iff.1 kb0).1
  have Kp01 := Lib.hid (kb0)
  have ZSp1 := Lib.hid (Array.getElem?_eq_some_iff.1 kb1).1
  have Kp11 := Lib.hid (kb1)
  clear kb0 kb1
  with_reducible refine (SZ0.out _ B1.out).mono ?_
  rintro e w2 ⟨rfl, b⟩
  have Z2 := Lib.hid b.size
  have B2 := Lib.hid (below_then B1.out b)
  have Kp02 := Lib.hid (blk_below b Kp01.out)
  clear Kp01
  have Kp12 := Lib.hid (blk_below b Kp11.out)
  clear Kp11
  clear b
  obtain ⟨p1k0, p1k1, p1k2, p1k3, p1k4, p1k5, p1k6, p1k7⟩ := vec8 Kp12.out
  go_wp2_with fail
  with_reducible refine (SZ1.out _ B2.out).mono ?_
  rintro e w3 ⟨rfl, b⟩
  try clear hzp1
  clear p1k0 p1k1 p1k2 p1k3 p1k4 p1k5 p1k6 p1k7
  have Z3 := Lib.hid b.size
  have B3 := Lib.hid (below_then B2.out b)
  have Kp03 := Lib.hid (blk_below b Kp02.out)
  clear Kp02
  have Kp13 := Lib.hid (blk_below b Kp12.out)
  clear Kp12
  clear b
  go_upto_region 8 with (fail)
  have H := Lib.hid (show HeldC w3 w3 ([(w.heap.size, 26, #[.int .i64 p0k, .slice p0a1 p0n1 p0m1, .slice p0a2 p0n2 p0m2, .slice p0a3 p0n3 p0m3, .slice p0a4 p0n4 p0m4, .slice p0a5 p0n5 p0m5, .int .i64 p0c, .int .i64 p0e]), ((w.heap.size + 1), 26, #[.int .i64 p1k, .slice p1a1 p1n1 p1m1, .slice p1a2 p1n2 p1m2, .slice p1a3 p1n3 p1m3, .slice p1a4 p1n4 p1m4, .slice p1a5 p1n5 p1m5, .int .i64 p1c, .int .i64 p1e])]) from (heldC_cons (heldC_cons ⟨Below.refl _ _, (fun _ h => by cases h)⟩ Kp13.out) Kp03.out))
  go_cut [6, 7] from 27 to 34 (fun pu su wx => ∃ (gu : Nat) (C : Array Value), pu = .pointer (some ⟨gu, 0, none⟩) ∧ su = .string sv ∧ MadeU V w3 wx gu C)
  case first =>
    refine run_regionT (ops := (opsOf Tryz.f3 8)) (S := fun w' => HeldC w3 w' ([(w.heap.size, 26, #[.int .i64 p0k, .slice p0a1 p0n1 p0m1, .slice p0a2 p0n2 p0m2, .slice p0a3 p0n3 p0m3, .slice p0a4 p0n4 p0m4, .slice p0a5 p0n5 p0m5, .int .i64 p0c, .int .i64 p0e]), ((w.heap.size + 1), 26, #[.int .i64 p1k, .slice p1a1 p1n1 p1m1, .slice p1a2 p1n2 p1m2, .slice p1a3 p1n3 p1m3, .slice p1a4 p1n4 p1m4, .slice p1a5 p1n5 p1m5, .int .i64 p1c, .int .i64 p1e])])) (.fork [(0, true), (2, true)] 1 (.fork [] 3 (.fork [] 4 (.leaf [(5, true), (6, true), (7, true), (8, false), (9, false), (10, true)]) 8 (.leaf [(4, false), (5, true), (6, true), (7, true), (9, false), (10, true)])) 8 (.leaf [(3, false), (4, false), (5, true), (6, true), (7, true), (9, false), (10, true)])) 8 (.leaf [(1, false), (3, false), (4, false), (5, true), (6, true), (7, true), (9, false), (10, true)])) (by kernel_rfl) (by kernel_rfl) (by kernel_rfl) (by kernel_rfl) (by kernel_rfl) (fun _ _ _ _ _ h => h) (heldC_drew H.out) ?_
    have H := Lib.hid (heldC_drew H.out)
    refine runC_lvec (b := w.heap.size) (show opAt (opsOf Tryz.f3 8) 0 = some (some 28, .load 26 (.tmp 2), none) from by kernel_rfl) (by kernel_rfl) (by kernel_rfl) (by kernel_rfl) (List.Mem.head _) ?_
    refine runC_lvec (b := (w.heap.size + 1)) (show opAt (opsOf Tryz.f3 8) 2 = some (some 30, .load 26 (.tmp 3), none) from by kernel_rfl) (by kernel_rfl) (by kernel_rfl) (by kernel_rfl) (List.Mem.tail _ (List.Mem.head _)) ?_
    refine run_fork H.out (by kernel_rfl) (by kernel_rfl) ?_ ?_
    · refine run_call (args := [.agg #[.int .i64 p0k, .slice p0a1 p0n1 p0m1, .slice p0a2 p0n2 p0m2, .slice p0a3 p0n3 p0m3, .slice p0a4 p0n4 p0m4, .slice p0a5 p0n5 p0m5, .int .i64 p0c, .int .i64 p0e]]) (show opAt (opsOf Tryz.f3 8) 1 = some (some 29, .call { callee := .value (.func 6), args := [(.tmp 28)].toArray, argTypes := [26].toArray }, none) from by kernel_rfl) (by kernel_rfl) (by kernel_rfl) (by kernel_rfl) (by kernel_rfl) ?_
      refine (TO0.out _ (below_then B3.out H.out.1)).mono ?_
      rintro en rw1 ⟨yt0, rfl, ho, hb⟩
      refine ⟨_, rfl, heldC_call H.out hb, ?_⟩
      have H := Lib.hid (heldC_call H.out hb)
      have A0 := Lib.hid (ResV.vatH ho)
      clear ho hb
      refine run_fork H.out (by kernel_rfl) (by kernel_rfl) ?_ ?_
      · refine run_call (args := [.agg #[.int .i64 p1k, .slice p1a1 p1n1 p1m1, .slice p1a2 p1n2 p1m2, .slice p1a3 p1n3 p1m3, .slice p1a4 p1n4 p1m4, .slice p1a5 p1n5 p1m5, .int .i64 p1c, .int .i64 p1e]]) (show opAt (opsOf Tryz.f3 8) 3 = some (some 31, .call { callee := .value (.func 6), args := [(.tmp 30)].toArray, argTypes := [26].toArray }, none) from by kernel_rfl) (by kernel_rfl) (by kernel_rfl) (by kernel_rfl) (by kernel_rfl) ?_
        refine (TO1.out _ (below_then B3.out H.out.1)).mono ?_
        rintro en rw2 ⟨yt1, rfl, ho, hb⟩
        refine ⟨_, rfl, heldC_call H.out hb, ?_⟩
        have H := Lib.hid (heldC_call H.out hb)
        have A0 := Lib.hid (A0.out.keep hb)
        have A1 := Lib.hid (ResV.vatH ho)
        clear ho hb
        refine run_fork H.out (by kernel_rfl) (by kernel_rfl) ?_ ?_
        · refine run_call (args := [yt0, yt1]) (show opAt (opsOf Tryz.f3 8) 4 = some (some 32, .call { callee := .value (.func 5), args := [(.tmp 29), (.tmp 31)].toArray, argTypes := [31, 31].toArray }, none) from by kernel_rfl) (by kernel_rfl) (by kernel_rfl) (by kernel_rfl) (by kernel_rfl) ?_
          refine (SP.out _ yt0 yt1 A0.out.out A1.out.out (below_then B3.out H.out.1)).mono ?_
          rintro en rw3 ⟨yu, rfl, ho, hb⟩
          refine ⟨_, rfl, heldC_call H.out hb, ?_⟩
          obtain ⟨yuk, yua1, yun1, yum1, yua2, yun2, yum2, yua3, yun3, yum3, yua4, yun4, yum4, yua5, yun5, yum5, yuc, yue, rfl⟩ := ho.agg
          (try have UB := Lib.hid (Array.getElem?_eq_some_iff.1 N8.out.out).1)
          have LU := Lib.hid H.out.1.size
          have H := Lib.hid (heldC_call H.out hb)
          have A0 := Lib.hid (A0.out.keep hb)
          have A1 := Lib.hid (A1.out.keep hb)
          have OU := Lib.hid (⟨ho, Nat.le_refl _⟩ : OwnH 1 V _ _ _ _)
          clear ho hb
          refine run_mov (v := .tuple #[.agg #[.int .i64 yuk, .slice yua1 yun1 yum1, .slice yua2 yun2 yum2, .slice yua3 yun3 yum3, .slice yua4 yun4 yum4, .slice yua5 yun5 yum5, .int .i64 yuc, .int .i64 yue], .string sv]) (show opAt (opsOf Tryz.f3 8) 5 = some (some 27, .move (.tmp 32), none) from by kernel_rfl) (by kernel_rfl) (by kernel_rfl) (by kernel_rfl) ?_
          refine run_extract (vs := #[.agg #[.int .i64 yuk, .slice yua1 yun1 yum1, .slice yua2 yun2 yum2, .slice yua3 yun3 yum3, .slice yua4 yun4 yum4, .slice yua5 yun5 yum5, .int .i64 yuc, .int .i64 yue], .string sv]) (v := .agg #[.int .i64 yuk, .slice yua1 yun1 yum1, .slice yua2 yun2 yum2, .slice yua3 yun3 yum3, .slice yua4 yun4 yum4, .slice yua5 yun5 yum5, .int .i64 yuc, .int .i64 yue]) (show opAt (opsOf Tryz.f3 8) 6 = some (some 33, .extract (.tmp 27) 0, none) from by kernel_rfl) (by kernel_rfl) (by kernel_rfl) (by kernel_rfl) (by rfl) ?_
          refine run_extract (vs := #[.agg #[.int .i64 yuk, .slice yua1 yun1 yum1, .slice yua2 yun2 yum2, .slice yua3 yun3 yum3, .slice yua4 yun4 yum4, .slice yua5 yun5 yum5, .int .i64 yuc, .int .i64 yue], .string sv]) (v := .string sv) (show opAt (opsOf Tryz.f3 8) 7 = some (some 34, .extract (.tmp 27) 1, none) from by kernel_rfl) (by kernel_rfl) (by kernel_rfl) (by kernel_rfl) (by rfl) ?_
          refine run_new (C := #[.int .i64 0, .slice none 0 0, .slice none 0 0, .slice none 0 0, .slice none 0 0, .slice none 0 0, .int .i64 0, .int .i64 0]) (show opAt (opsOf Tryz.f3 8) 8 = some (some 6, .alloc 31, none) from by kernel_rfl) (by kernel_rfl) (by kernel_rfl) new_vec (fun W8 n8 hW8 hn8 => ?_)
          subst hW8
          refine ⟨heldC_call H.out (below1 _ _), ?_⟩
          have N8 := Lib.hid (⟨blk_new _ _ hn8⟩ : NewB n8 31 #[.int .i64 0, .slice none 0 0, .slice none 0 0, .slice none 0 0, .slice none 0 0, .slice none 0 0, .int .i64 0, .int .i64 0] _)
          have G8 := Lib.hid (by rw [hn8]; exact H.out.1.size : w3.heap.size ≤ n8)
          have F8_0 := Lib.hid (by rw [hn8]; exact (Array.getElem?_eq_some_iff.1 (heldC_at H.out (List.Mem.head _))).1 : w.heap.size < n8)
          have F8_1 := Lib.hid (by rw [hn8]; exact (Array.getElem?_eq_some_iff.1 (heldC_at H.out (List.Mem.tail _ (List.Mem.head _)))).1 : (w.heap.size + 1) < n8)
          have A0 := Lib.hid (A0.out.keep (below1 _ (.cells #[.int .i64 0, .slice none 0 0, .slice none 0 0, .slice none 0 0, .slice none 0 0, .slice none 0 0, .int .i64 0, .int .i64 0] 31)))
          have A1 := Lib.hid (A1.out.keep (below1 _ (.cells #[.int .i64 0, .slice none 0 0, .slice none 0 0, .slice none 0 0, .slice none 0 0, .slice none 0 0, .int .i64 0, .int .i64 0] 31)))
          have OU := Lib.hid (OU.out.keep (below1 _ (.cells #[.int .i64 0, .slice none 0 0, .slice none 0 0, .slice none 0 0, .slice none 0 0, .slice none 0 0, .int .i64 0, .int .i64 0] 31)))
          have H := Lib.hid (heldC_call H.out (below1 _ (.cells #[.int .i64 0, .slice none 0 0, .slice none 0 0, .slice none 0 0, .slice none 0 0, .slice none 0 0, .int .i64 0, .int .i64 0] 31)))
          have NE8 := Lib.hid hn8
          clear hn8
          refine run_store (w' := World.setRow _ n8 #[.int .i64 yuk, .slice yua1 yun1 yum1, .slice yua2 yun2 yum2, .slice yua3 yun3 yum3, .slice yua4 yun4 yum4, .slice yua5 yun5 yum5, .int .i64 yuc, .int .i64 yue]) (show opAt (opsOf Tryz.f3 8) 9 = some (none, .store 31 (.tmp 6) (.tmp 33), none) from by kernel_rfl) (by kernel_rfl) (by kernel_rfl) (by kernel_rfl) (store_vec8 N8.out.out (by simp [Value.oneCell'])) (⟨below_row H.out.1 G8.out _, fun q hq => row_old (H.out.2 q hq) (by have := F8_0.out; have := F8_1.out; simp only [List.mem_cons, List.not_mem_nil, or_false] at hq; rcases hq with rfl | rfl <;> (simp only; omega))⟩) ?_
          refine run_asg (v := .string sv) (show opAt (opsOf Tryz.f3 8) 10 = some (some 7, .assign (.tmp 34), none) from by kernel_rfl) (by kernel_rfl) (by kernel_rfl) (by kernel_rfl) ?_
          refine run_done ?_
          simp only [putAll, Act.put, List.setIfInBounds_toArray, List.set_cons_zero, List.set_cons_succ]
          go_wp2_with fail
          go_meet
          exact ⟨_, _, rfl, rfl, ⟨row_set N8.out.out, (OU.out.own.rowO (by first | (left; have := UB.out; omega) | (right; have := NE8.out; omega))).wide LU.out (Nat.le_trans OU.out.hh (row_size _ _ _)), below_row H.out.1 G8.out _, G8.out⟩⟩
        · refine run_new (C := #[.int .i64 0, .slice none 0 0, .slice none 0 0, .slice none 0 0, .slice none 0 0, .slice none 0 0, .int .i64 0, .int .i64 0]) (show opAt (opsOf Tryz.f3 8) 8 = some (some 6, .alloc 31, none) from by kernel_rfl) (by kernel_rfl) (by kernel_rfl) new_vec (fun W8 n8 hW8 hn8 => ?_)
          subst hW8
          refine ⟨heldC_call H.out (below1 _ _), ?_⟩
          have N8 := Lib.hid (⟨blk_new _ _ hn8⟩ : NewB n8 31 #[.int .i64 0, .slice none 0 0, .slice none 0 0, .slice none 0 0, .slice none 0 0, .slice none 0 0, .int .i64 0, .int .i64 0] _)
          have G8 := Lib.hid (by rw [hn8]; exact H.out.1.size : w3.heap.size ≤ n8)
          have F8_0 := Lib.hid (by rw [hn8]; exact (Array.getElem?_eq_some_iff.1 (heldC_at H.out (List.Mem.head _))).1 : w.heap.size < n8)
          have F8_1 := Lib.hid (by rw [hn8]; exact (Array.getElem?_eq_some_iff.1 (heldC_at H.out (List.Mem.tail _ (List.Mem.head _)))).1 : (w.heap.size + 1) < n8)
          have A0 := Lib.hid (A0.out.keep (below1 _ (.cells #[.int .i64 0, .slice none 0 0, .slice none 0 0, .slice none 0 0, .slice none 0 0, .slice none 0 0, .int .i64 0, .int .i64 0] 31)))
          have A1 := Lib.hid (A1.out.keep (below1 _ (.cells #[.int .i64 0, .slice none 0 0, .slice none 0 0, .slice none 0 0, .slice none 0 0, .slice none 0 0, .int .i64 0, .int .i64 0] 31)))
          have H := Lib.hid (heldC_call H.out (below1 _ (.cells #[.int .i64 0, .slice none 0 0, .slice none 0 0, .slice none 0 0, .slice none 0 0, .slice none 0 0, .int .i64 0, .int .i64 0] 31)))
          have NE8 := Lib.hid hn8
          clear hn8
          refine run_call (args := [yt0, yt1]) (show opAt (opsOf Tryz.f3 8) 4 = some (some 32, .call { callee := .value (.func 5), args := [(.tmp 29), (.tmp 31)].toArray, argTypes := [31, 31].toArray }, none) from by kernel_rfl) (by kernel_rfl) (by kernel_rfl) (by kernel_rfl) (by kernel_rfl) ?_
          refine (SP.out _ yt0 yt1 A0.out.out A1.out.out (below_then B3.out H.out.1)).mono ?_
          rintro en rw3 ⟨yu, rfl, ho, hb⟩
          refine ⟨_, rfl, heldC_call H.out hb, ?_⟩
          obtain ⟨yuk, yua1, yun1, yum1, yua2, yun2, yum2, yua3, yun3, yum3, yua4, yun4, yum4, yua5, yun5, yum5, yuc, yue, rfl⟩ := ho.agg
          (try have UB := Lib.hid (Array.getElem?_eq_some_iff.1 N8.out.out).1)
          have LU := Lib.hid H.out.1.size
          have H := Lib.hid (heldC_call H.out hb)
          have A0 := Lib.hid (A0.out.keep hb)
          have A1 := Lib.hid (A1.out.keep hb)
          have N8 := Lib.hid (N8.out.keep hb)
          have OU := Lib.hid (⟨ho, Nat.le_refl _⟩ : OwnH 1 V _ _ _ _)
          clear ho hb
          refine run_mov (v := .tuple #[.agg #[.int .i64 yuk, .slice yua1 yun1 yum1, .slice yua2 yun2 yum2, .slice yua3 yun3 yum3, .slice yua4 yun4 yum4, .slice yua5 yun5 yum5, .int .i64 yuc, .int .i64 yue], .string sv]) (show opAt (opsOf Tryz.f3 8) 5 = some (some 27, .move (.tmp 32), none) from by kernel_rfl) (by kernel_rfl) (by kernel_rfl) (by kernel_rfl) ?_
          refine run_extract (vs := #[.agg #[.int .i64 yuk, .slice yua1 yun1 yum1, .slice yua2 yun2 yum2, .slice yua3 yun3 yum3, .slice yua4 yun4 yum4, .slice yua5 yun5 yum5, .int .i64 yuc, .int .i64 yue], .string sv]) (v := .agg #[.int .i64 yuk, .slice yua1 yun1 yum1, .slice yua2 yun2 yum2, .slice yua3 yun3 yum3, .slice yua4 yun4 yum4, .slice yua5 yun5 yum5, .int .i64 yuc, .int .i64 yue]) (show opAt (opsOf Tryz.f3 8) 6 = some (some 33, .extract (.tmp 27) 0, none) from by kernel_rfl) (by kernel_rfl) (by kernel_rfl) (by kernel_rfl) (by rfl) ?_
          refine run_extract (vs := #[.agg #[.int .i64 yuk, .slice yua1 yun1 yum1, .slice yua2 yun2 yum2, .slice yua3 yun3 yum3, .slice yua4 yun4 yum4, .slice yua5 yun5 yum5, .int .i64 yuc, .int .i64 yue], .string sv]) (v := .string sv) (show opAt (opsOf Tryz.f3 8) 7 = some (some 34, .extract (.tmp 27) 1, none) from by kernel_rfl) (by kernel_rfl) (by kernel_rfl) (by kernel_rfl) (by rfl) ?_
          refine run_store (w' := World.setRow _ n8 #[.int .i64 yuk, .slice yua1 yun1 yum1, .slice yua2 yun2 yum2, .slice yua3 yun3 yum3, .slice yua4 yun4 yum4, .slice yua5 yun5 yum5, .int .i64 yuc, .int .i64 yue]) (show opAt (opsOf Tryz.f3 8) 9 = some (none, .store 31 (.tmp 6) (.tmp 33), none) from by kernel_rfl) (by kernel_rfl) (by kernel_rfl) (by kernel_rfl) (store_vec8 N8.out.out (by simp [Value.oneCell'])) (⟨below_row H.out.1 G8.out _, fun q hq => row_old (H.out.2 q hq) (by have := F8_0.out; have := F8_1.out; simp only [List.mem_cons, List.not_mem_nil, or_false] at hq; rcases hq with rfl | rfl <;> (simp only; omega))⟩) ?_
          refine run_asg (v := .string sv) (show opAt (opsOf Tryz.f3 8) 10 = some (some 7, .assign (.tmp 34), none) from by kernel_rfl) (by kernel_rfl) (by kernel_rfl) (by kernel_rfl) ?_
          refine run_done ?_
          simp only [putAll, Act.put, List.setIfInBounds_toArray, List.set_cons_zero, List.set_cons_succ]
          go_wp2_with fail
          go_meet
          exact ⟨_, _, rfl, rfl, ⟨row_set N8.out.out, (OU.out.own.rowO (by first | (left; have := UB.out; omega) | (right; have := NE8.out; omega))).wide LU.out (Nat.le_trans OU.out.hh (row_size _ _ _)), below_row H.out.1 G8.out _, G8.out⟩⟩
      · refine run_new (C := #[.int .i64 0, .slice none 0 0, .slice none 0 0, .slice none 0 0, .slice none 0 0, .slice none 0 0, .int .i64 0, .int .i64 0]) (show opAt (opsOf Tryz.f3 8) 8 = some (some 6, .alloc 31, none) from by kernel_rfl) (by kernel_rfl) (by kernel_rfl) new_vec (fun W8 n8 hW8 hn8 => ?_)
        subst hW8
        refine ⟨heldC_call H.out (below1 _ _), ?_⟩
        have N8 := Lib.hid (⟨blk_new _ _ hn8⟩ : NewB n8 31 #[.int .i64 0, .slice none 0 0, .slice none 0 0, .slice none 0 0, .slice none 0 0, .slice none 0 0, .int .i64 0, .int .i64 0] _)
        have G8 := Lib.hid (by rw [hn8]; exact H.out.1.size : w3.heap.size ≤ n8)
        have F8_0 := Lib.hid (by rw [hn8]; exact (Array.getElem?_eq_some_iff.1 (heldC_at H.out (List.Mem.head _))).1 : w.heap.size < n8)
        have F8_1 := Lib.hid (by rw [hn8]; exact (Array.getElem?_eq_some_iff.1 (heldC_at H.out (List.Mem.tail _ (List.Mem.head _)))).1 : (w.heap.size + 1) < n8)
        have A0 := Lib.hid (A0.out.keep (below1 _ (.cells #[.int .i64 0, .slice none 0 0, .slice none 0 0, .slice none 0 0, .slice none 0 0, .slice none 0 0, .int .i64 0, .int .i64 0] 31)))
        have H := Lib.hid (heldC_call H.out (below1 _ (.cells #[.int .i64 0, .slice none 0 0, .slice none 0 0, .slice none 0 0, .slice none 0 0, .slice none 0 0, .int .i64 0, .int .i64 0] 31)))
        have NE8 := Lib.hid hn8
        clear hn8
        refine run_call (args := [.agg #[.int .i64 p1k, .slice p1a1 p1n1 p1m1, .slice p1a2 p1n2 p1m2, .slice p1a3 p1n3 p1m3, .slice p1a4 p1n4 p1m4, .slice p1a5 p1n5 p1m5, .int .i64 p1c, .int .i64 p1e]]) (show opAt (opsOf Tryz.f3 8) 3 = some (some 31, .call { callee := .value (.func 6), args := [(.tmp 30)].toArray, argTypes := [26].toArray }, none) from by kernel_rfl) (by kernel_rfl) (by kernel_rfl) (by kernel_rfl) (by kernel_rfl) ?_
        refine (TO1.out _ (below_then B3.out H.out.1)).mono ?_
        rintro en rw2 ⟨yt1, rfl, ho, hb⟩
        refine ⟨_, rfl, heldC_call H.out hb, ?_⟩
        have H := Lib.hid (heldC_call H.out hb)
        have A0 := Lib.hid (A0.out.keep hb)
        have N8 := Lib.hid (N8.out.keep hb)
        have A1 := Lib.hid (ResV.vatH ho)
        clear ho hb
        refine run_call (args := [yt0, yt1]) (show opAt (opsOf Tryz.f3 8) 4 = some (some 32, .call { callee := .value (.func 5), args := [(.tmp 29), (.tmp 31)].toArray, argTypes := [31, 31].toArray }, none) from by kernel_rfl) (by kernel_rfl) (by kernel_rfl) (by kernel_rfl) (by kernel_rfl) ?_
        refine (SP.out _ yt0 yt1 A0.out.out A1.out.out (below_then B3.out H.out.1)).mono ?_
        rintro en rw3 ⟨yu, rfl, ho, hb⟩
        refine ⟨_, rfl, heldC_call H.out hb, ?_⟩
        obtain ⟨yuk, yua1, yun1, yum1, yua2, yun2, yum2, yua3, yun3, yum3, yua4, yun4, yum4, yua5, yun5, yum5, yuc, yue, rfl⟩ := ho.agg
        (try have UB := Lib.hid (Array.getElem?_eq_some_iff.1 N8.out.out).1)
        have LU := Lib.hid H.out.1.size
        have H := Lib.hid (heldC_call H.out hb)
        have A0 := Lib.hid (A0.out.keep hb)
        have N8 := Lib.hid (N8.out.keep hb)
        have A1 := Lib.hid (A1.out.keep hb)
        have OU := Lib.hid (⟨ho, Nat.le_refl _⟩ : OwnH 1 V _ _ _ _)
        clear ho hb
        refine run_mov (v := .tuple #[.agg #[.int .i64 yuk, .slice yua1 yun1 yum1, .slice yua2 yun2 yum2, .slice yua3 yun3 yum3, .slice yua4 yun4 yum4, .slice yua5 yun5 yum5, .int .i64 yuc, .int .i64 yue], .string sv]) (show opAt (opsOf Tryz.f3 8) 5 = some (some 27, .move (.tmp 32), none) from by kernel_rfl) (by kernel_rfl) (by kernel_rfl) (by kernel_rfl) ?_
        refine run_extract (vs := #[.agg #[.int .i64 yuk, .slice yua1 yun1 yum1, .slice yua2 yun2 yum2, .slice yua3 yun3 yum3, .slice yua4 yun4 yum4, .slice yua5 yun5 yum5, .int .i64 yuc, .int .i64 yue], .string sv]) (v := .agg #[.int .i64 yuk, .slice yua1 yun1 yum1, .slice yua2 yun2 yum2, .slice yua3 yun3 yum3, .slice yua4 yun4 yum4, .slice yua5 yun5 yum5, .int .i64 yuc, .int .i64 yue]) (show opAt (opsOf Tryz.f3 8) 6 = some (some 33, .extract (.tmp 27) 0, none) from by kernel_rfl) (by kernel_rfl) (by kernel_rfl) (by kernel_rfl) (by rfl) ?_
        refine run_extract (vs := #[.agg #[.int .i64 yuk, .slice yua1 yun1 yum1, .slice yua2 yun2 yum2, .slice yua3 yun3 yum3, .slice yua4 yun4 yum4, .slice yua5 yun5 yum5, .int .i64 yuc, .int .i64 yue], .string sv]) (v := .string sv) (show opAt (opsOf Tryz.f3 8) 7 = some (some 34, .extract (.tmp 27) 1, none) from by kernel_rfl) (by kernel_rfl) (by kernel_rfl) (by kernel_rfl) (by rfl) ?_
        refine run_store (w' := World.setRow _ n8 #[.int .i64 yuk, .slice yua1 yun1 yum1, .slice yua2 yun2 yum2, .slice yua3 yun3 yum3, .slice yua4 yun4 yum4, .slice yua5 yun5 yum5, .int .i64 yuc, .int .i64 yue]) (show opAt (opsOf Tryz.f3 8) 9 = some (none, .store 31 (.tmp 6) (.tmp 33), none) from by kernel_rfl) (by kernel_rfl) (by kernel_rfl) (by kernel_rfl) (store_vec8 N8.out.out (by simp [Value.oneCell'])) (⟨below_row H.out.1 G8.out _, fun q hq => row_old (H.out.2 q hq) (by have := F8_0.out; have := F8_1.out; simp only [List.mem_cons, List.not_mem_nil, or_false] at hq; rcases hq with rfl | rfl <;> (simp only; omega))⟩) ?_
        refine run_asg (v := .string sv) (show opAt (opsOf Tryz.f3 8) 10 = some (some 7, .assign (.tmp 34), none) from by kernel_rfl) (by kernel_rfl) (by kernel_rfl) (by kernel_rfl) ?_
        refine run_done ?_
        simp only [putAll, Act.put, List.setIfInBounds_toArray, List.set_cons_zero, List.set_cons_succ]
        go_wp2_with fail
        go_meet
        exact ⟨_, _, rfl, rfl, ⟨row_set N8.out.out, (OU.out.own.rowO (by first | (left; have := UB.out; omega) | (right; have := NE8.out; omega))).wide LU.out (Nat.le_trans OU.out.hh (row_size _ _ _)), below_row H.out.1 G8.out _, G8.out⟩⟩
    · refine run_new (C := #[.int .i64 0, .slice none 0 0, .slice none 0 0, .slice none 0 0, .slice none 0 0, .slice none 0 0, .int .i64 0, .int .i64 0]) (show opAt (opsOf Tryz.f3 8) 8 = some (some 6, .alloc 31, none) from by kernel_rfl) (by kernel_rfl) (by kernel_rfl) new_vec (fun W8 n8 hW8 hn8 => ?_)
      subst hW8
      refine ⟨heldC_call H.out (below1 _ _), ?_⟩
      have N8 := Lib.hid (⟨blk_new _ _ hn8⟩ : NewB n8 31 #[.int .i64 0, .slice none 0 0, .slice none 0 0, .slice none 0 0, .slice none 0 0, .slice none 0 0, .int .i64 0, .int .i64 0] _)
      have G8 := Lib.hid (by rw [hn8]; exact H.out.1.size : w3.heap.size ≤ n8)
      have F8_0 := Lib.hid (by rw [hn8]; exact (Array.getElem?_eq_some_iff.1 (heldC_at H.out (List.Mem.head _))).1 : w.heap.size < n8)
      have F8_1 := Lib.hid (by rw [hn8]; exact (Array.getElem?_eq_some_iff.1 (heldC_at H.out (List.Mem.tail _ (List.Mem.head _)))).1 : (w.heap.size + 1) < n8)
      have H := Lib.hid (heldC_call H.out (below1 _ (.cells #[.int .i64 0, .slice none 0 0, .slice none 0 0, .slice none 0 0, .slice none 0 0, .slice none 0 0, .int .i64 0, .int .i64 0] 31)))
      have NE8 := Lib.hid hn8
      clear hn8
      refine run_call (args := [.agg #[.int .i64 p0k, .slice p0a1 p0n1 p0m1, .slice p0a2 p0n2 p0m2, .slice p0a3 p0n3 p0m3, .slice p0a4 p0n4 p0m4, .slice p0a5 p0n5 p0m5, .int .i64 p0c, .int .i64 p0e]]) (show opAt (opsOf Tryz.f3 8) 1 = some (some 29, .call { callee := .value (.func 6), args := [(.tmp 28)].toArray, argTypes := [26].toArray }, none) from by kernel_rfl) (by kernel_rfl) (by kernel_rfl) (by kernel_rfl) (by kernel_rfl) ?_
      refine (TO0.out _ (below_then B3.out H.out.1)).mono ?_
      rintro en rw1 ⟨yt0, rfl, ho, hb⟩
      refine ⟨_, rfl, heldC_call H.out hb, ?_⟩
      have H := Lib.hid (heldC_call H.out hb)
      have N8 := Lib.hid (N8.out.keep hb)
      have A0 := Lib.hid (ResV.vatH ho)
      clear ho hb
      refine run_call (args := [.agg #[.int .i64 p1k, .slice p1a1 p1n1 p1m1, .slice p1a2 p1n2 p1m2, .slice p1a3 p1n3 p1m3, .slice p1a4 p1n4 p1m4, .slice p1a5 p1n5 p1m5, .int .i64 p1c, .int .i64 p1e]]) (show opAt (opsOf Tryz.f3 8) 3 = some (some 31, .call { callee := .value (.func 6), args := [(.tmp 30)].toArray, argTypes := [26].toArray }, none) from by kernel_rfl) (by kernel_rfl) (by kernel_rfl) (by kernel_rfl) (by kernel_rfl) ?_
      refine (TO1.out _ (below_then B3.out H.out.1)).mono ?_
      rintro en rw2 ⟨yt1, rfl, ho, hb⟩
      refine ⟨_, rfl, heldC_call H.out hb, ?_⟩
      have H := Lib.hid (heldC_call H.out hb)
      have N8 := Lib.hid (N8.out.keep hb)
      have A0 := Lib.hid (A0.out.keep hb)
      have A1 := Lib.hid (ResV.vatH ho)
      clear ho hb
      refine run_call (args := [yt0, yt1]) (show opAt (opsOf Tryz.f3 8) 4 = some (some 32, .call { callee := .value (.func 5), args := [(.tmp 29), (.tmp 31)].toArray, argTypes := [31, 31].toArray }, none) from by kernel_rfl) (by kernel_rfl) (by kernel_rfl) (by kernel_rfl) (by kernel_rfl) ?_
      refine (SP.out _ yt0 yt1 A0.out.out A1.out.out (below_then B3.out H.out.1)).mono ?_
      rintro en rw3 ⟨yu, rfl, ho, hb⟩
      refine ⟨_, rfl, heldC_call H.out hb, ?_⟩
      obtain ⟨yuk, yua1, yun1, yum1, yua2, yun2, yum2, yua3, yun3, yum3, yua4, yun4, yum4, yua5, yun5, yum5, yuc, yue, rfl⟩ := ho.agg
      (try have UB := Lib.hid (Array.getElem?_eq_some_iff.1 N8.out.out).1)
      have LU := Lib.hid H.out.1.size
      have H := Lib.hid (heldC_call H.out hb)
      have N8 := Lib.hid (N8.out.keep hb)
      have A0 := Lib.hid (A0.out.keep hb)
      have A1 := Lib.hid (A1.out.keep hb)
      have OU := Lib.hid (⟨ho, Nat.le_refl _⟩ : OwnH 1 V _ _ _ _)
      clear ho hb
      refine run_mov (v := .tuple #[.agg #[.int .i64 yuk, .slice yua1 yun1 yum1, .slice yua2 yun2 yum2, .slice yua3 yun3 yum3, .slice yua4 yun4 yum4, .slice yua5 yun5 yum5, .int .i64 yuc, .int .i64 yue], .string sv]) (show opAt (opsOf Tryz.f3 8) 5 = some (some 27, .move (.tmp 32), none) from by kernel_rfl) (by kernel_rfl) (by kernel_rfl) (by kernel_rfl) ?_
      refine run_extract (vs := #[.agg #[.int .i64 yuk, .slice yua1 yun1 yum1, .slice yua2 yun2 yum2, .slice yua3 yun3 yum3, .slice yua4 yun4 yum4, .slice yua5 yun5 yum5, .int .i64 yuc, .int .i64 yue], .string sv]) (v := .agg #[.int .i64 yuk, .slice yua1 yun1 yum1, .slice yua2 yun2 yum2, .slice yua3 yun3 yum3, .slice yua4 yun4 yum4, .slice yua5 yun5 yum5, .int .i64 yuc, .int .i64 yue]) (show opAt (opsOf Tryz.f3 8) 6 = some (some 33, .extract (.tmp 27) 0, none) from by kernel_rfl) (by kernel_rfl) (by kernel_rfl) (by kernel_rfl) (by rfl) ?_
      refine run_extract (vs := #[.agg #[.int .i64 yuk, .slice yua1 yun1 yum1, .slice yua2 yun2 yum2, .slice yua3 yun3 yum3, .slice yua4 yun4 yum4, .slice yua5 yun5 yum5, .int .i64 yuc, .int .i64 yue], .string sv]) (v := .string sv) (show opAt (opsOf Tryz.f3 8) 7 = some (some 34, .extract (.tmp 27) 1, none) from by kernel_rfl) (by kernel_rfl) (by kernel_rfl) (by kernel_rfl) (by rfl) ?_
      refine run_store (w' := World.setRow _ n8 #[.int .i64 yuk, .slice yua1 yun1 yum1, .slice yua2 yun2 yum2, .slice yua3 yun3 yum3, .slice yua4 yun4 yum4, .slice yua5 yun5 yum5, .int .i64 yuc, .int .i64 yue]) (show opAt (opsOf Tryz.f3 8) 9 = some (none, .store 31 (.tmp 6) (.tmp 33), none) from by kernel_rfl) (by kernel_rfl) (by kernel_rfl) (by kernel_rfl) (store_vec8 N8.out.out (by simp [Value.oneCell'])) (⟨below_row H.out.1 G8.out _, fun q hq => row_old (H.out.2 q hq) (by have := F8_0.out; have := F8_1.out; simp only [List.mem_cons, List.not_mem_nil, or_false] at hq; rcases hq with rfl | rfl <;> (simp only; omega))⟩) ?_
      refine run_asg (v := .string sv) (show opAt (opsOf Tryz.f3 8) 10 = some (some 7, .assign (.tmp 34), none) from by kernel_rfl) (by kernel_rfl) (by kernel_rfl) (by kernel_rfl) ?_
      refine run_done ?_
      simp only [putAll, Act.put, List.setIfInBounds_toArray, List.set_cons_zero, List.set_cons_succ]
      go_wp2_with fail
      go_meet
      exact ⟨_, _, rfl, rfl, ⟨row_set N8.out.out, (OU.out.own.rowO (by first | (left; have := UB.out; omega) | (right; have := NE8.out; omega))).wide LU.out (Nat.le_trans OU.out.hh (row_size _ _ _)), below_row H.out.1 G8.out _, G8.out⟩⟩
  obtain ⟨w4, rfl⟩ : ∃ u : World, u = wc := ⟨_, rfl⟩
  obtain ⟨gu, C, rfl, rfl, hm⟩ := hcut
  obtain ⟨uk, ua1, un1, um1, ua2, un2, um2, ua3, un3, um3, ua4, un4, um4, ua5, un5, um5, uc, ue, rfl⟩ := hm.cells
  clear H
  have b := hm.below
  have Z4 := Lib.hid b.size
  have B4 := Lib.hid (below_then B3.out b)
  have Kp04 := Lib.hid (blk_below b Kp03.out)
  clear Kp03
  have Kp14 := Lib.hid (blk_below b Kp13.out)
  clear Kp13
  clear b
  have ZSu := Lib.hid (Array.getElem?_eq_some_iff.1 hm.blk).1
  have Ku4 := Lib.hid (hm.blk)
  have Ou4 := Lib.hid (hm.own)
  have Ouh4 := Lib.hid ((Nat.le_refl _) : w4.heap.size ≤ w4.heap.size)
  clear hm
  obtain ⟨p0k0, p0k1, p0k2, p0k3, p0k4, p0k5, p0k6, p0k7⟩ := vec8 Kp04.out
  go_wp2_with fail
  with_reducible refine (TO0.out _ B4.out).mono ?_
  rintro e w5 ⟨y, rfl, ho, b⟩
  obtain ⟨x0k, x0a1, x0n1, x0m1, x0a2, x0n2, x0m2, x0a3, x0n3, x0m3, x0a4, x0n4, x0m4, x0a5, x0n5, x0m5, x0c, x0e, rfl⟩ := ho.agg
  try clear hzp0
  clear p0k0 p0k1 p0k2 p0k3 p0k4 p0k5 p0k6 p0k7
  have Z5 := Lib.hid b.size
  have B5 := Lib.hid (below_then B4.out b)
  have Kp05 := Lib.hid (blk_below b Kp04.out)
  clear Kp04
  have Kp15 := Lib.hid (blk_below b Kp14.out)
  clear Kp14
  have Ku5 := Lib.hid (blk_below b Ku4.out)
  clear Ku4
  have Ou5 := Lib.hid (Ou4.out.below b Ouh4.out)
  have Ouh5 := Lib.hid (Nat.le_trans Ouh4.out b.size)
  clear Ou4 Ouh4
  clear b
  have Ox05 := Lib.hid (ho)
  have Ox0h5 := Lib.hid ((Nat.le_refl _) : w5.heap.size ≤ w5.heap.size)
  clear ho
  obtain ⟨p1k0, p1k1, p1k2, p1k3, p1k4, p1k5, p1k6, p1k7⟩ := vec8 Kp15.out
  have hzp1 := (Array.getElem?_eq_some_iff.1 Kp15.out).1
  go_wp2_with fail
  obtain ⟨w6, hW⟩ : ∃ W, w5.alloc (.cells #[.int .i64 x0k, .slice x0a1 x0n1 x0m1, .slice x0a2 x0n2 x0m2, .slice x0a3 x0n3 x0m3, .slice x0a4 x0n4 x0m4, .slice x0a5 x0n5 x0m5, .int .i64 x0c, .int .i64 x0e] 31) = W := ⟨_, rfl⟩
  have b : Below w5.heap.size w5 w6 := hW ▸ below1 w5 _
  have kb : w6.heap[w5.heap.size]? = some (.cells #[.int .i64 x0k, .slice x0a1 x0n1 x0m1, .slice x0a2 x0n2 x0m2, .slice x0a3 x0n3 x0m3, .slice x0a4 x0n4 x0m4, .slice x0a5 x0n5 x0m5, .int .i64 x0c, .int .i64 x0e] 31 (0, 0)) := hW ▸ blk_new w5 _ rfl
  rw [hW]
  clear hW
  have Z6 := Lib.hid b.size
  have B6 := Lib.hid (below_then B5.out b)
  have Kp06 := Lib.hid (blk_below b Kp05.out)
  clear Kp05
  have Kp16 := Lib.hid (blk_below b Kp15.out)
  clear Kp15
  have Ku6 := Lib.hid (blk_below b Ku5.out)
  clear Ku5
  have Ou6 := Lib.hid (Ou5.out.below b Ouh5.out)
  have Ouh6 := Lib.hid (Nat.le_trans Ouh5.out b.size)
  clear Ou5 Ouh5
  have Ox06 := Lib.hid (Ox05.out.below b Ox0h5.out)
  have Ox0h6 := Lib.hid (Nat.le_trans Ox0h5.out b.size)
  clear Ox05 Ox0h5
  clear b
  have ZS6 := Lib.hid (Array.getElem?_eq_some_iff.1 kb).1
  have Kx06 := Lib.hid (kb)
  clear kb
  with_reducible refine (TO1.out _ B6.out).mono ?_
  rintro e w7 ⟨y, rfl, ho, b⟩
  obtain ⟨x1k, x1a1, x1n1, x1m1, x1a2, x1n2, x1m2, x1a3, x1n3, x1m3, x1a4, x1n4, x1m4, x1a5, x1n5, x1m5, x1c, x1e, rfl⟩ := ho.agg
  try clear hzp1
  clear p1k0 p1k1 p1k2 p1k3 p1k4 p1k5 p1k6 p1k7
  have Z7 := Lib.hid b.size
  have B7 := Lib.hid (below_then B6.out b)
  have Kp07 := Lib.hid (blk_below b Kp06.out)
  clear Kp06
  have Kp17 := Lib.hid (blk_below b Kp16.out)
  clear Kp16
  have Ku7 := Lib.hid (blk_below b Ku6.out)
  clear Ku6
  have Ou7 := Lib.hid (Ou6.out.below b Ouh6.out)
  have Ouh7 := Lib.hid (Nat.le_trans Ouh6.out b.size)
  clear Ou6 Ouh6
  have Ox07 := Lib.hid (Ox06.out.below b Ox0h6.out)
  have Ox0h7 := Lib.hid (Nat.le_trans Ox0h6.out b.size)
  clear Ox06 Ox0h6
  have Kx07 := Lib.hid (blk_below b Kx06.out)
  clear Kx06
  clear b
  have Ox17 := Lib.hid (ho)
  have Ox1h7 := Lib.hid ((Nat.le_refl _) : w7.heap.size ≤ w7.heap.size)
  clear ho
  obtain ⟨x0k0, x0k1, x0k2, x0k3, x0k4, x0k5, x0k6, x0k7⟩ := vec8 Kx07.out
  have hzx0 := (Array.getElem?_eq_some_iff.1 Kx07.out).1
  go_wp2_with fail
  obtain ⟨w8, hW⟩ : ∃ W, w7.alloc (.cells #[.int .i64 x1k, .slice x1a1 x1n1 x1m1, .slice x1a2 x1n2 x1m2, .slice x1a3 x1n3 x1m3, .slice x1a4 x1n4 x1m4, .slice x1a5 x1n5 x1m5, .int .i64 x1c, .int .i64 x1e] 31) = W := ⟨_, rfl⟩
  have b : Below w7.heap.size w7 w8 := hW ▸ below1 w7 _
  have kb : w8.heap[w7.heap.size]? = some (.cells #[.int .i64 x1k, .slice x1a1 x1n1 x1m1, .slice x1a2 x1n2 x1m2, .slice x1a3 x1n3 x1m3, .slice x1a4 x1n4 x1m4, .slice x1a5 x1n5 x1m5, .int .i64 x1c, .int .i64 x1e] 31 (0, 0)) := hW ▸ blk_new w7 _ rfl
  rw [hW]
  clear hW
  have Z8 := Lib.hid b.size
  have B8 := Lib.hid (below_then B7.out b)
  have Kp08 := Lib.hid (blk_below b Kp07.out)
  clear Kp07
  have Kp18 := Lib.hid (blk_below b Kp17.out)
  clear Kp17
  have Ku8 := Lib.hid (blk_below b Ku7.out)
  clear Ku7
  have Ou8 := Lib.hid (Ou7.out.below b Ouh7.out)
  have Ouh8 := Lib.hid (Nat.le_trans Ouh7.out b.size)
  clear Ou7 Ouh7
  have Ox08 := Lib.hid (Ox07.out.below b Ox0h7.out)
  have Ox0h8 := Lib.hid (Nat.le_trans Ox0h7.out b.size)
  clear Ox07 Ox0h7
  have Kx08 := Lib.hid (blk_below b Kx07.out)
  clear Kx07
  have Ox18 := Lib.hid (Ox17.out.below b Ox1h7.out)
  have Ox1h8 := Lib.hid (Nat.le_trans Ox1h7.out b.size)
  clear Ox17 Ox1h7
  clear b
  have ZS8 := Lib.hid (Array.getElem?_eq_some_iff.1 kb).1
  have Kx18 := Lib.hid (kb)
  clear kb
  with_reducible refine (IM.out _ _ _ (Ox08.out.vat Ox0h8.out) (Ox18.out.vat Ox1h8.out) B8.out).mono ?_
  rintro e w9 ⟨y, rfl, ho, b⟩
  obtain ⟨gk, ga1, gn1, gm1, ga2, gn2, gm2, ga3, gn3, gm3, ga4, gn4, gm4, ga5, gn5, gm5, gc, ge, rfl⟩ := ho.agg
  try clear hzx0
  clear x0k0 x0k1 x0k2 x0k3 x0k4 x0k5 x0k6 x0k7
  have Z9 := Lib.hid b.size
  have B9 := Lib.hid (below_then B8.out b)
  have Kp09 := Lib.hid (blk_below b Kp08.out)
  clear Kp08
  have Kp19 := Lib.hid (blk_below b Kp18.out)
  clear Kp18
  have Ku9 := Lib.hid (blk_below b Ku8.out)
  clear Ku8
  have Ou9 := Lib.hid (Ou8.out.below b Ouh8.out)
  have Ouh9 := Lib.hid (Nat.le_trans Ouh8.out b.size)
  clear Ou8 Ouh8
  have Ox09 := Lib.hid (Ox08.out.below b Ox0h8.out)
  have Ox0h9 := Lib.hid (Nat.le_trans Ox0h8.out b.size)
  clear Ox08 Ox0h8
  have Kx09 := Lib.hid (blk_below b Kx08.out)
  clear Kx08
  have Ox19 := Lib.hid (Ox18.out.below b Ox1h8.out)
  have Ox1h9 := Lib.hid (Nat.le_trans Ox1h8.out b.size)
  clear Ox18 Ox1h8
  have Kx19 := Lib.hid (blk_below b Kx18.out)
  clear Kx18
  clear b
  have Og9 := Lib.hid (ho)
  have Ogh9 := Lib.hid ((Nat.le_refl _) : w9.heap.size ≤ w9.heap.size)
  clear ho
  obtain ⟨uk0, uk1, uk2, uk3, uk4, uk5, uk6, uk7⟩ := vec8 Ku9.out
  have hzu := (Array.getElem?_eq_some_iff.1 Ku9.out).1
  go_wp2_with fail
  obtain ⟨w10, hW⟩ : ∃ W, w9.alloc (.cells #[.int .i64 gk, .slice ga1 gn1 gm1, .slice ga2 gn2 gm2, .slice ga3 gn3 gm3, .slice ga4 gn4 gm4, .slice ga5 gn5 gm5, .int .i64 gc, .int .i64 ge] 31) = W := ⟨_, rfl⟩
  have b : Below w9.heap.size w9 w10 := hW ▸ below1 w9 _
  have kb : w10.heap[w9.heap.size]? = some (.cells #[.int .i64 gk, .slice ga1 gn1 gm1, .slice ga2 gn2 gm2, .slice ga3 gn3 gm3, .slice ga4 gn4 gm4, .slice ga5 gn5 gm5, .int .i64 gc, .int .i64 ge] 31 (0, 0)) := hW ▸ blk_new w9 _ rfl
  rw [hW]
  clear hW
  have Z10 := Lib.hid b.size
  have B10 := Lib.hid (below_then B9.out b)
  have Kp010 := Lib.hid (blk_below b Kp09.out)
  clear Kp09
  have Kp110 := Lib.hid (blk_below b Kp19.out)
  clear Kp19
  have Ku10 := Lib.hid (blk_below b Ku9.out)
  clear Ku9
  have Ou10 := Lib.hid (Ou9.out.below b Ouh9.out)
  have Ouh10 := Lib.hid (Nat.le_trans Ouh9.out b.size)
  clear Ou9 Ouh9
  have Ox010 := Lib.hid (Ox09.out.below b Ox0h9.out)
  have Ox0h10 := Lib.hid (Nat.le_trans Ox0h9.out b.size)
  clear Ox09 Ox0h9
  have Kx010 := Lib.hid (blk_below b Kx09.out)
  clear Kx09
  have Ox110 := Lib.hid (Ox19.out.below b Ox1h9.out)
  have Ox1h10 := Lib.hid (Nat.le_trans Ox1h9.out b.size)
  clear Ox19 Ox1h9
  have Kx110 := Lib.hid (blk_below b Kx19.out)
  clear Kx19
  have Og10 := Lib.hid (Og9.out.below b Ogh9.out)
  have Ogh10 := Lib.hid (Nat.le_trans Ogh9.out b.size)
  clear Og9 Ogh9
  clear b
  have ZS10 := Lib.hid (Array.getElem?_eq_some_iff.1 kb).1
  have Kg10 := Lib.hid (kb)
  clear kb
  with_reducible refine (EQ.out _ _ _ (Og10.out.vat Ogh10.out) (Ou10.out.vat Ouh10.out)).mono ?_
  rintro e w11 ⟨rfl, b⟩
  try clear hzu
  clear uk0 uk1 uk2 uk3 uk4 uk5 uk6 uk7
  have Z11 := Lib.hid b.size
  have B11 := Lib.hid (below_then B10.out b)
  have Kp011 := Lib.hid (blk_below b Kp010.out)
  clear Kp010
  have Kp111 := Lib.hid (blk_below b Kp110.out)
  clear Kp110
  have Ku11 := Lib.hid (blk_below b Ku10.out)
  clear Ku10
  have Ou11 := Lib.hid (Ou10.out.below b Ouh10.out)
  have Ouh11 := Lib.hid (Nat.le_trans Ouh10.out b.size)
  clear Ou10 Ouh10
  have Ox011 := Lib.hid (Ox010.out.below b Ox0h10.out)
  have Ox0h11 := Lib.hid (Nat.le_trans Ox0h10.out b.size)
  clear Ox010 Ox0h10
  have Kx011 := Lib.hid (blk_below b Kx010.out)
  clear Kx010
  have Ox111 := Lib.hid (Ox110.out.below b Ox1h10.out)
  have Ox1h11 := Lib.hid (Nat.le_trans Ox1h10.out b.size)
  clear Ox110 Ox1h10
  have Kx111 := Lib.hid (blk_below b Kx110.out)
  clear Kx110
  have Og11 := Lib.hid (Og10.out.below b Ogh10.out)
  have Ogh11 := Lib.hid (Nat.le_trans Ogh10.out b.size)
  clear Og10 Ogh10
  have Kg11 := Lib.hid (blk_below b Kg10.out)
  clear Kg10
  clear b
  go_wp2
  have H := Lib.hid (heldC_two (Below.refl _ _) Kx011.out Kp011.out)
  refine run_region (ops := (opsOf Tryz.f3 14)) (S := fun w' => HeldC w11 w' ([(w5.heap.size, 31, #[.int .i64 x0k, .slice x0a1 x0n1 x0m1, .slice x0a2 x0n2 x0m2, .slice x0a3 x0n3 x0m3, .slice x0a4 x0n4 x0m4, .slice x0a5 x0n5 x0m5, .int .i64 x0c, .int .i64 x0e]), (w.heap.size, 26, #[.int .i64 p0k, .slice p0a1 p0n1 p0m1, .slice p0a2 p0n2 p0m2, .slice p0a3 p0n3 p0m3, .slice p0a4 p0n4 p0m4, .slice p0a5 p0n5 p0m5, .int .i64 p0c, .int .i64 p0e])])) [(0, true), (1, true), (2, false), (3, false), (4, true)] (by kernel_rfl) (by kernel_rfl) (by kernel_rfl) (by kernel_rfl) (by kernel_rfl) (fun _ _ _ _ _ h => h) (heldC_drew H.out) ?_
  have H := Lib.hid (heldC_drew H.out)
  refine runC_vec (b := w5.heap.size) (show opAt (opsOf Tryz.f3 14) 0 = some (some 54, .load 31 (.tmp 8), none) from by kernel_rfl) (by kernel_rfl) (by kernel_rfl) (by kernel_rfl) (List.Mem.head _) ?_
  refine runC_lvec (b := w.heap.size) (show opAt (opsOf Tryz.f3 14) 1 = some (some 55, .load 26 (.tmp 2), none) from by kernel_rfl) (by kernel_rfl) (by kernel_rfl) (by kernel_rfl) (List.Mem.tail _ (List.Mem.head _)) ?_
  refine run_call (args := [.agg #[.int .i64 p0k, .slice p0a1 p0n1 p0m1, .slice p0a2 p0n2 p0m2, .slice p0a3 p0n3 p0m3, .slice p0a4 p0n4 p0m4, .slice p0a5 p0n5 p0m5, .int .i64 p0c, .int .i64 p0e]]) (show opAt (opsOf Tryz.f3 14) 2 = some (some 56, .call { callee := .value (.func 6), args := [(.tmp 55)].toArray, argTypes := [26].toArray }, none) from by kernel_rfl) (by kernel_rfl) (by kernel_rfl) (by kernel_rfl) (by kernel_rfl) ?_
  refine (TO0.out _ (below_then B11.out H.out.1)).mono ?_
  rintro en r0w1 ⟨yq, rfl, ho, hb⟩
  refine ⟨_, rfl, heldC_call H.out hb, ?_⟩
  have Oyq := Lib.hid ho
  have H := Lib.hid (heldC_call H.out hb)
  clear ho hb
  refine run_call (args := [.agg #[.int .i64 x0k, .slice x0a1 x0n1 x0m1, .slice x0a2 x0n2 x0m2, .slice x0a3 x0n3 x0m3, .slice x0a4 x0n4 x0m4, .slice x0a5 x0n5 x0m5, .int .i64 x0c, .int .i64 x0e], yq]) (show opAt (opsOf Tryz.f3 14) 3 = some (some 57, .call { callee := .value (.func 8), args := [(.tmp 54), (.tmp 56)].toArray, argTypes := [31, 31].toArray }, none) from by kernel_rfl) (by kernel_rfl) (by kernel_rfl) (by kernel_rfl) (by kernel_rfl) ?_
  refine (QX0.out _ _ _ ((Ox011.out.below H.out.1 Ox0h11.out).vat (Nat.le_trans Ox0h11.out H.out.1.size)) (Oyq.out.vat (Nat.le_refl _))).mono ?_
  rintro en r0w2 ⟨rfl, hb⟩
  refine ⟨_, rfl, heldC_call H.out hb, ?_⟩
  have H := Lib.hid (heldC_call H.out hb)
  clear hb
  refine run_not (b := true) (show opAt (opsOf Tryz.f3 14) 4 = some (some 58, .unOp .not 4 (.tmp 57), none) from by kernel_rfl) (by kernel_rfl) (by kernel_rfl) (by kernel_rfl) ?_
  refine run_done ?_
  simp only [putAll, Act.put, List.setIfInBounds_toArray, List.set_cons_zero, List.set_cons_succ]
  have b := H.out.1
  clear H Oyq
  have Z12 := Lib.hid b.size
  have B12 := Lib.hid (below_then B11.out b)
  have Kp012 := Lib.hid (blk_below b Kp011.out)
  clear Kp011
  have Kp112 := Lib.hid (blk_below b Kp111.out)
  clear Kp111
  have Ku12 := Lib.hid (blk_below b Ku11.out)
  clear Ku11
  have Ou12 := Lib.hid (Ou11.out.below b Ouh11.out)
  have Ouh12 := Lib.hid (Nat.le_trans Ouh11.out b.size)
  clear Ou11 Ouh11
  have Ox012 := Lib.hid (Ox011.out.below b Ox0h11.out)
  have Ox0h12 := Lib.hid (Nat.le_trans Ox0h11.out b.size)
  clear Ox011 Ox0h11
  have Kx012 := Lib.hid (blk_below b Kx011.out)
  clear Kx011
  have Ox112 := Lib.hid (Ox111.out.below b Ox1h11.out)
  have Ox1h12 := Lib.hid (Nat.le_trans Ox1h11.out b.size)
  clear Ox111 Ox1h11
  have Kx112 := Lib.hid (blk_below b Kx111.out)
  clear Kx111
  have Og12 := Lib.hid (Og11.out.below b Ogh11.out)
  have Ogh12 := Lib.hid (Nat.le_trans Ogh11.out b.size)
  clear Og11 Ogh11
  have Kg12 := Lib.hid (blk_below b Kg11.out)
  clear Kg11
  clear b
  go_wp2
  have H := Lib.hid (heldC_two (Below.refl _ _) Kx112.out Kp112.out)
  refine run_region (ops := (opsOf Tryz.f3 16)) (S := fun w' => HeldC r0w2 w' ([(w7.heap.size, 31, #[.int .i64 x1k, .slice x1a1 x1n1 x1m1, .slice x1a2 x1n2 x1m2, .slice x1a3 x1n3 x1m3, .slice x1a4 x1n4 x1m4, .slice x1a5 x1n5 x1m5, .int .i64 x1c, .int .i64 x1e]), ((w.heap.size + 1), 26, #[.int .i64 p1k, .slice p1a1 p1n1 p1m1, .slice p1a2 p1n2 p1m2, .slice p1a3 p1n3 p1m3, .slice p1a4 p1n4 p1m4, .slice p1a5 p1n5 p1m5, .int .i64 p1c, .int .i64 p1e])])) [(0, true), (1, true), (2, false), (3, false), (4, true)] (by kernel_rfl) (by kernel_rfl) (by kernel_rfl) (by kernel_rfl) (by kernel_rfl) (fun _ _ _ _ _ h => h) (heldC_drew H.out) ?_
  have H := Lib.hid (heldC_drew H.out)
  refine runC_vec (b := w7.heap.size) (show opAt (opsOf Tryz.f3 16) 0 = some (some 59, .load 31 (.tmp 9), none) from by kernel_rfl) (by kernel_rfl) (by kernel_rfl) (by kernel_rfl) (List.Mem.head _) ?_
  refine runC_lvec (b := (w.heap.size + 1)) (show opAt (opsOf Tryz.f3 16) 1 = some (some 60, .load 26 (.tmp 3), none) from by kernel_rfl) (by kernel_rfl) (by kernel_rfl) (by kernel_rfl) (List.Mem.tail _ (List.Mem.head _)) ?_
  refine run_call (args := [.agg #[.int .i64 p1k, .slice p1a1 p1n1 p1m1, .slice p1a2 p1n2 p1m2, .slice p1a3 p1n3 p1m3, .slice p1a4 p1n4 p1m4, .slice p1a5 p1n5 p1m5, .int .i64 p1c, .int .i64 p1e]]) (show opAt (opsOf Tryz.f3 16) 2 = some (some 61, .call { callee := .value (.func 6), args := [(.tmp 60)].toArray, argTypes := [26].toArray }, none) from by kernel_rfl) (by kernel_rfl) (by kernel_rfl) (by kernel_rfl) (by kernel_rfl) ?_
  refine (TO1.out _ (below_then B12.out H.out.1)).mono ?_
  rintro en r1w1 ⟨yq, rfl, ho, hb⟩
  refine ⟨_, rfl, heldC_call H.out hb, ?_⟩
  have Oyq := Lib.hid ho
  have H := Lib.hid (heldC_call H.out hb)
  clear ho hb
  refine run_call (args := [.agg #[.int .i64 x1k, .slice x1a1 x1n1 x1m1, .slice x1a2 x1n2 x1m2, .slice x1a3 x1n3 x1m3, .slice x1a4 x1n4 x1m4, .slice x1a5 x1n5 x1m5, .int .i64 x1c, .int .i64 x1e], yq]) (show opAt (opsOf Tryz.f3 16) 3 = some (some 62, .call { callee := .value (.func 8), args := [(.tmp 59), (.tmp 61)].toArray, argTypes := [31, 31].toArray }, none) from by kernel_rfl) (by kernel_rfl) (by kernel_rfl) (by kernel_rfl) (by kernel_rfl) ?_
  refine (QX1.out _ _ _ ((Ox112.out.below H.out.1 Ox1h12.out).vat (Nat.le_trans Ox1h12.out H.out.1.size)) (Oyq.out.vat (Nat.le_refl _))).mono ?_
  rintro en r1w2 ⟨rfl, hb⟩
  refine ⟨_, rfl, heldC_call H.out hb, ?_⟩
  have H := Lib.hid (heldC_call H.out hb)
  clear hb
  refine run_not (b := true) (show opAt (opsOf Tryz.f3 16) 4 = some (some 63, .unOp .not 4 (.tmp 62), none) from by kernel_rfl) (by kernel_rfl) (by kernel_rfl) (by kernel_rfl) ?_
  refine run_done ?_
  simp only [putAll, Act.put, List.setIfInBounds_toArray, List.set_cons_zero, List.set_cons_succ]
  have b := H.out.1
  clear H Oyq
  have Z13 := Lib.hid b.size
  have B13 := Lib.hid (below_then B12.out b)
  have Kp013 := Lib.hid (blk_below b Kp012.out)
  clear Kp012
  have Kp113 := Lib.hid (blk_below b Kp112.out)
  clear Kp112
  have Ku13 := Lib.hid (blk_below b Ku12.out)
  clear Ku12
  have Ou13 := Lib.hid (Ou12.out.below b Ouh12.out)
  have Ouh13 := Lib.hid (Nat.le_trans Ouh12.out b.size)
  clear Ou12 Ouh12
  have Ox013 := Lib.hid (Ox012.out.below b Ox0h12.out)
  have Ox0h13 := Lib.hid (Nat.le_trans Ox0h12.out b.size)
  clear Ox012 Ox0h12
  have Kx013 := Lib.hid (blk_below b Kx012.out)
  clear Kx012
  have Ox113 := Lib.hid (Ox112.out.below b Ox1h12.out)
  have Ox1h13 := Lib.hid (Nat.le_trans Ox1h12.out b.size)
  clear Ox112 Ox1h12
  have Kx113 := Lib.hid (blk_below b Kx112.out)
  clear Kx112
  have Og13 := Lib.hid (Og12.out.below b Ogh12.out)
  have Ogh13 := Lib.hid (Nat.le_trans Ogh12.out b.size)
  clear Og12 Ogh12
  have Kg13 := Lib.hid (blk_below b Kg12.out)
  clear Kg12
  clear b
  obtain ⟨x0k0, x0k1, x0k2, x0k3, x0k4, x0k5, x0k6, x0k7⟩ := vec8 Kx013.out
  go_wp2_with fail
  with_reducible refine (MX0.out _ _ _ _ Ox013.out Ox0h13.out).mono ?_
  rintro e w12 ⟨rfl, t⟩
  try clear hzx0
  clear x0k0 x0k1 x0k2 x0k3 x0k4 x0k5 x0k6 x0k7
  have Z14 := Lib.hid t.size
  have B14 := Lib.hid (B13.out.trans (t.below (Nat.le_trans (Nat.le_trans (Nat.le_trans Z1.out Z2.out) Z3.out) Z4.out) B13.out.size))
  have Kp014 := Lib.hid (t.blk (.inl (Nat.lt_of_lt_of_le ZSp0.out (Nat.le_trans (Nat.le_trans Z2.out Z3.out) Z4.out))) Kp013.out)
  clear Kp013
  have Kp114 := Lib.hid (t.blk (.inl (Nat.lt_of_lt_of_le ZSp1.out (Nat.le_trans (Nat.le_trans Z2.out Z3.out) Z4.out))) Kp113.out)
  clear Kp113
  have Ku14 := Lib.hid (t.blk (.inl (Nat.lt_of_lt_of_le ZSu.out (Nat.le_refl _))) Ku13.out)
  clear Ku13
  have Ou14 := Lib.hid (Ou13.out.within t (.inl (Nat.le_refl _)) Ouh13.out)
  have Ouh14 := Lib.hid (Nat.le_trans Ouh13.out t.size)
  clear Ou13 Ouh13
  have Kx014 := Lib.hid (t.blk (.inr (Nat.le_refl _)) Kx013.out)
  clear Kx013
  have Ox114 := Lib.hid (Ox113.out.within t (.inr Z6.out) Ox1h13.out)
  have Ox1h14 := Lib.hid (Nat.le_trans Ox1h13.out t.size)
  clear Ox113 Ox1h13
  have Kx114 := Lib.hid (t.blk (.inr (Nat.le_trans Z6.out Z7.out)) Kx113.out)
  clear Kx113
  have Og14 := Lib.hid (Og13.out.within t (.inr (Nat.le_trans (Nat.le_trans Z6.out Z7.out) Z8.out)) Ogh13.out)
  have Ogh14 := Lib.hid (Nat.le_trans Ogh13.out t.size)
  clear Og13 Ogh13
  have Kg14 := Lib.hid (t.blk (.inr (Nat.le_trans (Nat.le_trans (Nat.le_trans Z6.out Z7.out) Z8.out) Z9.out)) Kg13.out)
  clear Kg13
  clear Ox013 Ox0h13
  clear t
  clear Kx014
  obtain ⟨x1k0, x1k1, x1k2, x1k3, x1k4, x1k5, x1k6, x1k7⟩ := vec8 Kx114.out
  go_wp2_with fail
  with_reducible refine (MX1.out _ _ _ _ Ox114.out Ox1h14.out).mono ?_
  rintro e w13 ⟨rfl, t⟩
  try clear hzx1
  clear x1k0 x1k1 x1k2 x1k3 x1k4 x1k5 x1k6 x1k7
  have Z15 := Lib.hid t.size
  have B15 := Lib.hid (B14.out.trans (t.below (Nat.le_trans (Nat.le_trans (Nat.le_trans (Nat.le_trans (Nat.le_trans Z1.out Z2.out) Z3.out) Z4.out) Z5.out) Z6.out) B14.out.size))
  have Kp015 := Lib.hid (t.blk (.inl (Nat.lt_of_lt_of_le ZSp0.out (Nat.le_trans (Nat.le_trans (Nat.le_trans (Nat.le_trans Z2.out Z3.out) Z4.out) Z5.out) Z6.out))) Kp014.out)
  clear Kp014
  have Kp115 := Lib.hid (t.blk (.inl (Nat.lt_of_lt_of_le ZSp1.out (Nat.le_trans (Nat.le_trans (Nat.le_trans (Nat.le_trans Z2.out Z3.out) Z4.out) Z5.out) Z6.out))) Kp114.out)
  clear Kp114
  have Ku15 := Lib.hid (t.blk (.inl (Nat.lt_of_lt_of_le ZSu.out (Nat.le_trans Z5.out Z6.out))) Ku14.out)
  clear Ku14
  have Ou15 := Lib.hid (Ou14.out.within t (.inl (Nat.le_trans Z5.out Z6.out)) Ouh14.out)
  have Ouh15 := Lib.hid (Nat.le_trans Ouh14.out t.size)
  clear Ou14 Ouh14
  have Kx115 := Lib.hid (t.blk (.inr (Nat.le_refl _)) Kx114.out)
  clear Kx114
  have Og15 := Lib.hid (Og14.out.within t (.inr Z8.out) Ogh14.out)
  have Ogh15 := Lib.hid (Nat.le_trans Ogh14.out t.size)
  clear Og14 Ogh14
  have Kg15 := Lib.hid (t.blk (.inr (Nat.le_trans Z8.out Z9.out)) Kg14.out)
  clear Kg14
  clear Ox114 Ox1h14
  clear t
  clear Kx115
  obtain ⟨gk0, gk1, gk2, gk3, gk4, gk5, gk6, gk7⟩ := vec8 Kg15.out
  obtain ⟨uk0, uk1, uk2, uk3, uk4, uk5, uk6, uk7⟩ := vec8 Ku15.out
  go_wp2_with fail
  with_reducible refine (EQ.out _ _ _ (Og15.out.vat Ogh15.out) (Ou15.out.vat Ouh15.out)).mono ?_
  rintro e w14 ⟨rfl, b⟩
  try clear hzg
  clear gk0 gk1 gk2 gk3 gk4 gk5 gk6 gk7
  try clear hzu
  clear uk0 uk1 uk2 uk3 uk4 uk5 uk6 uk7
  have Z16 := Lib.hid b.size
  have B16 := Lib.hid (below_then B15.out b)
  have Kp016 := Lib.hid (blk_below b Kp015.out)
  clear Kp015
  have Kp116 := Lib.hid (blk_below b Kp115.out)
  clear Kp115
  have Ku16 := Lib.hid (blk_below b Ku15.out)
  clear Ku15
  have Ou16 := Lib.hid (Ou15.out.below b Ouh15.out)
  have Ouh16 := Lib.hid (Nat.le_trans Ouh15.out b.size)
  clear Ou15 Ouh15
  have Og16 := Lib.hid (Og15.out.below b Ogh15.out)
  have Ogh16 := Lib.hid (Nat.le_trans Ogh15.out b.size)
  clear Og15 Ogh15
  have Kg16 := Lib.hid (blk_below b Kg15.out)
  clear Kg15
  clear b
  obtain ⟨gk0, gk1, gk2, gk3, gk4, gk5, gk6, gk7⟩ := vec8 Kg16.out
  go_wp2_with fail
  with_reducible refine (MV.out _ _ _ _ Og16.out Ogh16.out).mono ?_
  rintro e w15 ⟨rfl, ho, t⟩
  try clear hzg
  clear gk0 gk1 gk2 gk3 gk4 gk5 gk6 gk7
  have Z17 := Lib.hid t.size
  have B17 := Lib.hid (B16.out.trans (t.below (Nat.le_trans (Nat.le_trans (Nat.le_trans (Nat.le_trans (Nat.le_trans (Nat.le_trans (Nat.le_trans Z1.out Z2.out) Z3.out) Z4.out) Z5.out) Z6.out) Z7.out) Z8.out) B16.out.size))
  have Kp017 := Lib.hid (t.blk (.inl (Nat.lt_of_lt_of_le ZSp0.out (Nat.le_trans (Nat.le_trans (Nat.le_trans (Nat.le_trans (Nat.le_trans (Nat.le_trans Z2.out Z3.out) Z4.out) Z5.out) Z6.out) Z7.out) Z8.out))) Kp016.out)
  clear Kp016
  have Kp117 := Lib.hid (t.blk (.inl (Nat.lt_of_lt_of_le ZSp1.out (Nat.le_trans (Nat.le_trans (Nat.le_trans (Nat.le_trans (Nat.le_trans (Nat.le_trans Z2.out Z3.out) Z4.out) Z5.out) Z6.out) Z7.out) Z8.out))) Kp116.out)
  clear Kp116
  have Ku17 := Lib.hid (t.blk (.inl (Nat.lt_of_lt_of_le ZSu.out (Nat.le_trans (Nat.le_trans (Nat.le_trans Z5.out Z6.out) Z7.out) Z8.out))) Ku16.out)
  clear Ku16
  have Ou17 := Lib.hid (Ou16.out.within t (.inl (Nat.le_trans (Nat.le_trans (Nat.le_trans Z5.out Z6.out) Z7.out) Z8.out)) Ouh16.out)
  have Ouh17 := Lib.hid (Nat.le_trans Ouh16.out t.size)
  clear Ou16 Ouh16
  have Kg17 := Lib.hid (t.blk (.inr (Nat.le_refl _)) Kg16.out)
  clear Kg16
  have Og17 := Lib.hid ho
  have Ogh17 := Lib.hid (Nat.le_trans Ogh16.out t.size)
  clear Og16 Ogh16 ho
  clear t
  obtain ⟨gk0, gk1, gk2, gk3, gk4, gk5, gk6, gk7⟩ := vec8 Kg17.out
  go_wp2_with fail
  with_reducible refine (HV.out _ _ _ _ Og17.out Ogh17.out).mono ?_
  rintro e w16 ⟨rfl, b⟩
  try clear hzg
  clear gk0 gk1 gk2 gk3 gk4 gk5 gk6 gk7
  have Z18 := Lib.hid b.size
  have B18 := Lib.hid (below_then B17.out b)
  have Kp018 := Lib.hid (blk_below b Kp017.out)
  clear Kp017
  have Kp118 := Lib.hid (blk_below b Kp117.out)
  clear Kp117
  have Ku18 := Lib.hid (blk_below b Ku17.out)
  clear Ku17
  have Ou18 := Lib.hid (Ou17.out.below b Ouh17.out)
  have Ouh18 := Lib.hid (Nat.le_trans Ouh17.out b.size)
  clear Ou17 Ouh17
  have Og18 := Lib.hid (Og17.out.below b Ogh17.out)
  have Ogh18 := Lib.hid (Nat.le_trans Ogh17.out b.size)
  clear Og17 Ogh17
  have Kg18 := Lib.hid (blk_below b Kg17.out)
  clear Kg17
  clear b
  go_upto_region 31 with (fail)
  have H := Lib.hid (show HeldC w16 w16 ([(w.heap.size, 26, #[.int .i64 p0k, .slice p0a1 p0n1 p0m1, .slice p0a2 p0n2 p0m2, .slice p0a3 p0n3 p0m3, .slice p0a4 p0n4 p0m4, .slice p0a5 p0n5 p0m5, .int .i64 p0c, .int .i64 p0e]), ((w.heap.size + 1), 26, #[.int .i64 p1k, .slice p1a1 p1n1 p1m1, .slice p1a2 p1n2 p1m2, .slice p1a3 p1n3 p1m3, .slice p1a4 p1n4 p1m4, .slice p1a5 p1n5 p1m5, .int .i64 p1c, .int .i64 p1e])]) from (heldC_cons (heldC_cons ⟨Below.refl _ _, (fun _ h => by cases h)⟩ Kp118.out) Kp018.out))
  go_cut [15, 16] from 94 to 101 (fun pu su wx => ∃ (gu : Nat) (C : Array Value), pu = .pointer (some ⟨gu, 0, none⟩) ∧ su = .string sv ∧ MadeU V w16 wx gu C)
  case first =>
    refine run_regionT (ops := (opsOf Tryz.f3 31)) (S := fun w' => HeldC w16 w' ([(w.heap.size, 26, #[.int .i64 p0k, .slice p0a1 p0n1 p0m1, .slice p0a2 p0n2 p0m2, .slice p0a3 p0n3 p0m3, .slice p0a4 p0n4 p0m4, .slice p0a5 p0n5 p0m5, .int .i64 p0c, .int .i64 p0e]), ((w.heap.size + 1), 26, #[.int .i64 p1k, .slice p1a1 p1n1 p1m1, .slice p1a2 p1n2 p1m2, .slice p1a3 p1n3 p1m3, .slice p1a4 p1n4 p1m4, .slice p1a5 p1n5 p1m5, .int .i64 p1c, .int .i64 p1e])])) (.fork [(0, true), (2, true)] 1 (.fork [] 3 (.fork [] 4 (.leaf [(5, true), (6, true), (7, true), (8, false), (9, false), (10, true)]) 8 (.leaf [(4, false), (5, true), (6, true), (7, true), (9, false), (10, true)])) 8 (.leaf [(3, false), (4, false), (5, true), (6, true), (7, true), (9, false), (10, true)])) 8 (.leaf [(1, false), (3, false), (4, false), (5, true), (6, true), (7, true), (9, false), (10, true)])) (by kernel_rfl) (by kernel_rfl) (by kernel_rfl) (by kernel_rfl) (by kernel_rfl) (fun _ _ _ _ _ h => h) (heldC_drew H.out) ?_
    have H := Lib.hid (heldC_drew H.out)
    refine runC_lvec (b := w.heap.size) (show opAt (opsOf Tryz.f3 31) 0 = some (some 95, .load 26 (.tmp 2), none) from by kernel_rfl) (by kernel_rfl) (by kernel_rfl) (by kernel_rfl) (List.Mem.head _) ?_
    refine runC_lvec (b := (w.heap.size + 1)) (show opAt (opsOf Tryz.f3 31) 2 = some (some 97, .load 26 (.tmp 3), none) from by kernel_rfl) (by kernel_rfl) (by kernel_rfl) (by kernel_rfl) (List.Mem.tail _ (List.Mem.head _)) ?_
    refine run_fork H.out (by kernel_rfl) (by kernel_rfl) ?_ ?_
    · refine run_call (args := [.agg #[.int .i64 p0k, .slice p0a1 p0n1 p0m1, .slice p0a2 p0n2 p0m2, .slice p0a3 p0n3 p0m3, .slice p0a4 p0n4 p0m4, .slice p0a5 p0n5 p0m5, .int .i64 p0c, .int .i64 p0e]]) (show opAt (opsOf Tryz.f3 31) 1 = some (some 96, .call { callee := .value (.func 6), args := [(.tmp 95)].toArray, argTypes := [26].toArray }, none) from by kernel_rfl) (by kernel_rfl) (by kernel_rfl) (by kernel_rfl) (by kernel_rfl) ?_
      refine (TO0.out _ (below_then B18.out H.out.1)).mono ?_
      rintro en rw1 ⟨yt0, rfl, ho, hb⟩
      refine ⟨_, rfl, heldC_call H.out hb, ?_⟩
      have H := Lib.hid (heldC_call H.out hb)
      have A0 := Lib.hid (ResV.vatH ho)
      clear ho hb
      refine run_fork H.out (by kernel_rfl) (by kernel_rfl) ?_ ?_
      · refine run_call (args := [.agg #[.int .i64 p1k, .slice p1a1 p1n1 p1m1, .slice p1a2 p1n2 p1m2, .slice p1a3 p1n3 p1m3, .slice p1a4 p1n4 p1m4, .slice p1a5 p1n5 p1m5, .int .i64 p1c, .int .i64 p1e]]) (show opAt (opsOf Tryz.f3 31) 3 = some (some 98, .call { callee := .value (.func 6), args := [(.tmp 97)].toArray, argTypes := [26].toArray }, none) from by kernel_rfl) (by kernel_rfl) (by kernel_rfl) (by kernel_rfl) (by kernel_rfl) ?_
        refine (TO1.out _ (below_then B18.out H.out.1)).mono ?_
        rintro en rw2 ⟨yt1, rfl, ho, hb⟩
        refine ⟨_, rfl, heldC_call H.out hb, ?_⟩
        have H := Lib.hid (heldC_call H.out hb)
        have A0 := Lib.hid (A0.out.keep hb)
        have A1 := Lib.hid (ResV.vatH ho)
        clear ho hb
        refine run_fork H.out (by kernel_rfl) (by kernel_rfl) ?_ ?_
        · refine run_call (args := [yt0, yt1]) (show opAt (opsOf Tryz.f3 31) 4 = some (some 99, .call { callee := .value (.func 7), args := [(.tmp 96), (.tmp 98)].toArray, argTypes := [31, 31].toArray }, none) from by kernel_rfl) (by kernel_rfl) (by kernel_rfl) (by kernel_rfl) (by kernel_rfl) ?_
          refine (IM.out _ yt0 yt1 A0.out.out A1.out.out (below_then B18.out H.out.1)).mono ?_
          rintro en rw3 ⟨yu, rfl, ho, hb⟩
          refine ⟨_, rfl, heldC_call H.out hb, ?_⟩
          obtain ⟨yuk, yua1, yun1, yum1, yua2, yun2, yum2, yua3, yun3, yum3, yua4, yun4, yum4, yua5, yun5, yum5, yuc, yue, rfl⟩ := ho.agg
          (try have UB := Lib.hid (Array.getElem?_eq_some_iff.1 N8.out.out).1)
          have LU := Lib.hid H.out.1.size
          have H := Lib.hid (heldC_call H.out hb)
          have A0 := Lib.hid (A0.out.keep hb)
          have A1 := Lib.hid (A1.out.keep hb)
          have OU := Lib.hid (⟨ho, Nat.le_refl _⟩ : OwnH 1 V _ _ _ _)
          clear ho hb
          refine run_mov (v := .tuple #[.agg #[.int .i64 yuk, .slice yua1 yun1 yum1, .slice yua2 yun2 yum2, .slice yua3 yun3 yum3, .slice yua4 yun4 yum4, .slice yua5 yun5 yum5, .int .i64 yuc, .int .i64 yue], .string sv]) (show opAt (opsOf Tryz.f3 31) 5 = some (some 94, .move (.tmp 99), none) from by kernel_rfl) (by kernel_rfl) (by kernel_rfl) (by kernel_rfl) ?_
          refine run_extract (vs := #[.agg #[.int .i64 yuk, .slice yua1 yun1 yum1, .slice yua2 yun2 yum2, .slice yua3 yun3 yum3, .slice yua4 yun4 yum4, .slice yua5 yun5 yum5, .int .i64 yuc, .int .i64 yue], .string sv]) (v := .agg #[.int .i64 yuk, .slice yua1 yun1 yum1, .slice yua2 yun2 yum2, .slice yua3 yun3 yum3, .slice yua4 yun4 yum4, .slice yua5 yun5 yum5, .int .i64 yuc, .int .i64 yue]) (show opAt (opsOf Tryz.f3 31) 6 = some (some 100, .extract (.tmp 94) 0, none) from by kernel_rfl) (by kernel_rfl) (by kernel_rfl) (by kernel_rfl) (by rfl) ?_
          refine run_extract (vs := #[.agg #[.int .i64 yuk, .slice yua1 yun1 yum1, .slice yua2 yun2 yum2, .slice yua3 yun3 yum3, .slice yua4 yun4 yum4, .slice yua5 yun5 yum5, .int .i64 yuc, .int .i64 yue], .string sv]) (v := .string sv) (show opAt (opsOf Tryz.f3 31) 7 = some (some 101, .extract (.tmp 94) 1, none) from by kernel_rfl) (by kernel_rfl) (by kernel_rfl) (by kernel_rfl) (by rfl) ?_
          refine run_new (C := #[.int .i64 0, .slice none 0 0, .slice none 0 0, .slice none 0 0, .slice none 0 0, .slice none 0 0, .int .i64 0, .int .i64 0]) (show opAt (opsOf Tryz.f3 31) 8 = some (some 15, .alloc 31, none) from by kernel_rfl) (by kernel_rfl) (by kernel_rfl) new_vec (fun W8 n8 hW8 hn8 => ?_)
          subst hW8
          refine ⟨heldC_call H.out (below1 _ _), ?_⟩
          have N8 := Lib.hid (⟨blk_new _ _ hn8⟩ : NewB n8 31 #[.int .i64 0, .slice none 0 0, .slice none 0 0, .slice none 0 0, .slice none 0 0, .slice none 0 0, .int .i64 0, .int .i64 0] _)
          have G8 := Lib.hid (by rw [hn8]; exact H.out.1.size : w16.heap.size ≤ n8)
          have F8_0 := Lib.hid (by rw [hn8]; exact (Array.getElem?_eq_some_iff.1 (heldC_at H.out (List.Mem.head _))).1 : w.heap.size < n8)
          have F8_1 := Lib.hid (by rw [hn8]; exact (Array.getElem?_eq_some_iff.1 (heldC_at H.out (List.Mem.tail _ (List.Mem.head _)))).1 : (w.heap.size + 1) < n8)
          have A0 := Lib.hid (A0.out.keep (below1 _ (.cells #[.int .i64 0, .slice none 0 0, .slice none 0 0, .slice none 0 0, .slice none 0 0, .slice none 0 0, .int .i64 0, .int .i64 0] 31)))
          have A1 := Lib.hid (A1.out.keep (below1 _ (.cells #[.int .i64 0, .slice none 0 0, .slice none 0 0, .slice none 0 0, .slice none 0 0, .slice none 0 0, .int .i64 0, .int .i64 0] 31)))
          have OU := Lib.hid (OU.out.keep (below1 _ (.cells #[.int .i64 0, .slice none 0 0, .slice none 0 0, .slice none 0 0, .slice none 0 0, .slice none 0 0, .int .i64 0, .int .i64 0] 31)))
          have H := Lib.hid (heldC_call H.out (below1 _ (.cells #[.int .i64 0, .slice none 0 0, .slice none 0 0, .slice none 0 0, .slice none 0 0, .slice none 0 0, .int .i64 0, .int .i64 0] 31)))
          have NE8 := Lib.hid hn8
          clear hn8
          refine run_store (w' := World.setRow _ n8 #[.int .i64 yuk, .slice yua1 yun1 yum1, .slice yua2 yun2 yum2, .slice yua3 yun3 yum3, .slice yua4 yun4 yum4, .slice yua5 yun5 yum5, .int .i64 yuc, .int .i64 yue]) (show opAt (opsOf Tryz.f3 31) 9 = some (none, .store 31 (.tmp 15) (.tmp 100), none) from by kernel_rfl) (by kernel_rfl) (by kernel_rfl) (by kernel_rfl) (store_vec8 N8.out.out (by simp [Value.oneCell'])) (⟨below_row H.out.1 G8.out _, fun q hq => row_old (H.out.2 q hq) (by have := F8_0.out; have := F8_1.out; simp only [List.mem_cons, List.not_mem_nil, or_false] at hq; rcases hq with rfl | rfl <;> (simp only; omega))⟩) ?_
          refine run_asg (v := .string sv) (show opAt (opsOf Tryz.f3 31) 10 = some (some 16, .assign (.tmp 101), none) from by kernel_rfl) (by kernel_rfl) (by kernel_rfl) (by kernel_rfl) ?_
          refine run_done ?_
          simp only [putAll, Act.put, List.setIfInBounds_toArray, List.set_cons_zero, List.set_cons_succ]
          go_wp2_with fail
          go_meet
          exact ⟨_, _, rfl, rfl, ⟨row_set N8.out.out, (OU.out.own.rowO (by first | (left; have := UB.out; omega) | (right; have := NE8.out; omega))).wide LU.out (Nat.le_trans OU.out.hh (row_size _ _ _)), below_row H.out.1 G8.out _, G8.out⟩⟩
        · refine run_new (C := #[.int .i64 0, .slice none 0 0, .slice none 0 0, .slice none 0 0, .slice none 0 0, .slice none 0 0, .int .i64 0, .int .i64 0]) (show opAt (opsOf Tryz.f3 31) 8 = some (some 15, .alloc 31, none) from by kernel_rfl) (by kernel_rfl) (by kernel_rfl) new_vec (fun W8 n8 hW8 hn8 => ?_)
          subst hW8
          refine ⟨heldC_call H.out (below1 _ _), ?_⟩
          have N8 := Lib.hid (⟨blk_new _ _ hn8⟩ : NewB n8 31 #[.int .i64 0, .slice none 0 0, .slice none 0 0, .slice none 0 0, .slice none 0 0, .slice none 0 0, .int .i64 0, .int .i64 0] _)
          have G8 := Lib.hid (by rw [hn8]; exact H.out.1.size : w16.heap.size ≤ n8)
          have F8_0 := Lib.hid (by rw [hn8]; exact (Array.getElem?_eq_some_iff.1 (heldC_at H.out (List.Mem.head _))).1 : w.heap.size < n8)
          have F8_1 := Lib.hid (by rw [hn8]; exact (Array.getElem?_eq_some_iff.1 (heldC_at H.out (List.Mem.tail _ (List.Mem.head _)))).1 : (w.heap.size + 1) < n8)
          have A0 := Lib.hid (A0.out.keep (below1 _ (.cells #[.int .i64 0, .slice none 0 0, .slice none 0 0, .slice none 0 0, .slice none 0 0, .slice none 0 0, .int .i64 0, .int .i64 0] 31)))
          have A1 := Lib.hid (A1.out.keep (below1 _ (.cells #[.int .i64 0, .slice none 0 0, .slice none 0 0, .slice none 0 0, .slice none 0 0, .slice none 0 0, .int .i64 0, .int .i64 0] 31)))
          have H := Lib.hid (heldC_call H.out (below1 _ (.cells #[.int .i64 0, .slice none 0 0, .slice none 0 0, .slice none 0 0, .slice none 0 0, .slice none 0 0, .int .i64 0, .int .i64 0] 31)))
          have NE8 := Lib.hid hn8
          clear hn8
          refine run_call (args := [yt0, yt1]) (show opAt (opsOf Tryz.f3 31) 4 = some (some 99, .call { callee := .value (.func 7), args := [(.tmp 96), (.tmp 98)].toArray, argTypes := [31, 31].toArray }, none) from by kernel_rfl) (by kernel_rfl) (by kernel_rfl) (by kernel_rfl) (by kernel_rfl) ?_
          refine (IM.out _ yt0 yt1 A0.out.out A1.out.out (below_then B18.out H.out.1)).mono ?_
          rintro en rw3 ⟨yu, rfl, ho, hb⟩
          refine ⟨_, rfl, heldC_call H.out hb, ?_⟩
          obtain ⟨yuk, yua1, yun1, yum1, yua2, yun2, yum2, yua3, yun3, yum3, yua4, yun4, yum4, yua5, yun5, yum5, yuc, yue, rfl⟩ := ho.agg
          (try have UB := Lib.hid (Array.getElem?_eq_some_iff.1 N8.out.out).1)
          have LU := Lib.hid H.out.1.size
          have H := Lib.hid (heldC_call H.out hb)
          have A0 := Lib.hid (A0.out.keep hb)
          have A1 := Lib.hid (A1.out.keep hb)
          have N8 := Lib.hid (N8.out.keep hb)
          have OU := Lib.hid (⟨ho, Nat.le_refl _⟩ : OwnH 1 V _ _ _ _)
          clear ho hb
          refine run_mov (v := .tuple #[.agg #[.int .i64 yuk, .slice yua1 yun1 yum1, .slice yua2 yun2 yum2, .slice yua3 yun3 yum3, .slice yua4 yun4 yum4, .slice yua5 yun5 yum5, .int .i64 yuc, .int .i64 yue], .string sv]) (show opAt (opsOf Tryz.f3 31) 5 = some (some 94, .move (.tmp 99), none) from by kernel_rfl) (by kernel_rfl) (by kernel_rfl) (by kernel_rfl) ?_
          refine run_extract (vs := #[.agg #[.int .i64 yuk, .slice yua1 yun1 yum1, .slice yua2 yun2 yum2, .slice yua3 yun3 yum3, .slice yua4 yun4 yum4, .slice yua5 yun5 yum5, .int .i64 yuc, .int .i64 yue], .string sv]) (v := .agg #[.int .i64 yuk, .slice yua1 yun1 yum1, .slice yua2 yun2 yum2, .slice yua3 yun3 yum3, .slice yua4 yun4 yum4, .slice yua5 yun5 yum5, .int .i64 yuc, .int .i64 yue]) (show opAt (opsOf Tryz.f3 31) 6 = some (some 100, .extract (.tmp 94) 0, none) from by kernel_rfl) (by kernel_rfl) (by kernel_rfl) (by kernel_rfl) (by rfl) ?_
          refine run_extract (vs := #[.agg #[.int .i64 yuk, .slice yua1 yun1 yum1, .slice yua2 yun2 yum2, .slice yua3 yun3 yum3, .slice yua4 yun4 yum4, .slice yua5 yun5 yum5, .int .i64 yuc, .int .i64 yue], .string sv]) (v := .string sv) (show opAt (opsOf Tryz.f3 31) 7 = some (some 101, .extract (.tmp 94) 1, none) from by kernel_rfl) (by kernel_rfl) (by kernel_rfl) (by kernel_rfl) (by rfl) ?_
          refine run_store (w' := World.setRow _ n8 #[.int .i64 yuk, .slice yua1 yun1 yum1, .slice yua2 yun2 yum2, .slice yua3 yun3 yum3, .slice yua4 yun4 yum4, .slice yua5 yun5 yum5, .int .i64 yuc, .int .i64 yue]) (show opAt (opsOf Tryz.f3 31) 9 = some (none, .store 31 (.tmp 15) (.tmp 100), none) from by kernel_rfl) (by kernel_rfl) (by kernel_rfl) (by kernel_rfl) (store_vec8 N8.out.out (by simp [Value.oneCell'])) (⟨below_row H.out.1 G8.out _, fun q hq => row_old (H.out.2 q hq) (by have := F8_0.out; have := F8_1.out; simp only [List.mem_cons, List.not_mem_nil, or_false] at hq; rcases hq with rfl | rfl <;> (simp only; omega))⟩) ?_
          refine run_asg (v := .string sv) (show opAt (opsOf Tryz.f3 31) 10 = some (some 16, .assign (.tmp 101), none) from by kernel_rfl) (by kernel_rfl) (by kernel_rfl) (by kernel_rfl) ?_
          refine run_done ?_
          simp only [putAll, Act.put, List.setIfInBounds_toArray, List.set_cons_zero, List.set_cons_succ]
          go_wp2_with fail
          go_meet
          exact ⟨_, _, rfl, rfl, ⟨row_set N8.out.out, (OU.out.own.rowO (by first | (left; have := UB.out; omega) | (right; have := NE8.out; omega))).wide LU.out (Nat.le_trans OU.out.hh (row_size _ _ _)), below_row H.out.1 G8.out _, G8.out⟩⟩
      · refine run_new (C := #[.int .i64 0, .slice none 0 0, .slice none 0 0, .slice none 0 0, .slice none 0 0, .slice none 0 0, .int .i64 0, .int .i64 0]) (show opAt (opsOf Tryz.f3 31) 8 = some (some 15, .alloc 31, none) from by kernel_rfl) (by kernel_rfl) (by kernel_rfl) new_vec (fun W8 n8 hW8 hn8 => ?_)
        subst hW8
        refine ⟨heldC_call H.out (below1 _ _), ?_⟩
        have N8 := Lib.hid (⟨blk_new _ _ hn8⟩ : NewB n8 31 #[.int .i64 0, .slice none 0 0, .slice none 0 0, .slice none 0 0, .slice none 0 0, .slice none 0 0, .int .i64 0, .int .i64 0] _)
        have G8 := Lib.hid (by rw [hn8]; exact H.out.1.size : w16.heap.size ≤ n8)
        have F8_0 := Lib.hid (by rw [hn8]; exact (Array.getElem?_eq_some_iff.1 (heldC_at H.out (List.Mem.head _))).1 : w.heap.size < n8)
        have F8_1 := Lib.hid (by rw [hn8]; exact (Array.getElem?_eq_some_iff.1 (heldC_at H.out (List.Mem.tail _ (List.Mem.head _)))).1 : (w.heap.size + 1) < n8)
        have A0 := Lib.hid (A0.out.keep (below1 _ (.cells #[.int .i64 0, .slice none 0 0, .slice none 0 0, .slice none 0 0, .slice none 0 0, .slice none 0 0, .int .i64 0, .int .i64 0] 31)))
        have H := Lib.hid (heldC_call H.out (below1 _ (.cells #[.int .i64 0, .slice none 0 0, .slice none 0 0, .slice none 0 0, .slice none 0 0, .slice none 0 0, .int .i64 0, .int .i64 0] 31)))
        have NE8 := Lib.hid hn8
        clear hn8
        refine run_call (args := [.agg #[.int .i64 p1k, .slice p1a1 p1n1 p1m1, .slice p1a2 p1n2 p1m2, .slice p1a3 p1n3 p1m3, .slice p1a4 p1n4 p1m4, .slice p1a5 p1n5 p1m5, .int .i64 p1c, .int .i64 p1e]]) (show opAt (opsOf Tryz.f3 31) 3 = some (some 98, .call { callee := .value (.func 6), args := [(.tmp 97)].toArray, argTypes := [26].toArray }, none) from by kernel_rfl) (by kernel_rfl) (by kernel_rfl) (by kernel_rfl) (by kernel_rfl) ?_
        refine (TO1.out _ (below_then B18.out H.out.1)).mono ?_
        rintro en rw2 ⟨yt1, rfl, ho, hb⟩
        refine ⟨_, rfl, heldC_call H.out hb, ?_⟩
        have H := Lib.hid (heldC_call H.out hb)
        have A0 := Lib.hid (A0.out.keep hb)
        have N8 := Lib.hid (N8.out.keep hb)
        have A1 := Lib.hid (ResV.vatH ho)
        clear ho hb
        refine run_call (args := [yt0, yt1]) (show opAt (opsOf Tryz.f3 31) 4 = some (some 99, .call { callee := .value (.func 7), args := [(.tmp 96), (.tmp 98)].toArray, argTypes := [31, 31].toArray }, none) from by kernel_rfl) (by kernel_rfl) (by kernel_rfl) (by kernel_rfl) (by kernel_rfl) ?_
        refine (IM.out _ yt0 yt1 A0.out.out A1.out.out (below_then B18.out H.out.1)).mono ?_
        rintro en rw3 ⟨yu, rfl, ho, hb⟩
        refine ⟨_, rfl, heldC_call H.out hb, ?_⟩
        obtain ⟨yuk, yua1, yun1, yum1, yua2, yun2, yum2, yua3, yun3, yum3, yua4, yun4, yum4, yua5, yun5, yum5, yuc, yue, rfl⟩ := ho.agg
        (try have UB := Lib.hid (Array.getElem?_eq_some_iff.1 N8.out.out).1)
        have LU := Lib.hid H.out.1.size
        have H := Lib.hid (heldC_call H.out hb)
        have A0 := Lib.hid (A0.out.keep hb)
        have N8 := Lib.hid (N8.out.keep hb)
        have A1 := Lib.hid (A1.out.keep hb)
        have OU := Lib.hid (⟨ho, Nat.le_refl _⟩ : OwnH 1 V _ _ _ _)
        clear ho hb
        refine run_mov (v := .tuple #[.agg #[.int .i64 yuk, .slice yua1 yun1 yum1, .slice yua2 yun2 yum2, .slice yua3 yun3 yum3, .slice yua4 yun4 yum4, .slice yua5 yun5 yum5, .int .i64 yuc, .int .i64 yue], .string sv]) (show opAt (opsOf Tryz.f3 31) 5 = some (some 94, .move (.tmp 99), none) from by kernel_rfl) (by kernel_rfl) (by kernel_rfl) (by kernel_rfl) ?_
        refine run_extract (vs := #[.agg #[.int .i64 yuk, .slice yua1 yun1 yum1, .slice yua2 yun2 yum2, .slice yua3 yun3 yum3, .slice yua4 yun4 yum4, .slice yua5 yun5 yum5, .int .i64 yuc, .int .i64 yue], .string sv]) (v := .agg #[.int .i64 yuk, .slice yua1 yun1 yum1, .slice yua2 yun2 yum2, .slice yua3 yun3 yum3, .slice yua4 yun4 yum4, .slice yua5 yun5 yum5, .int .i64 yuc, .int .i64 yue]) (show opAt (opsOf Tryz.f3 31) 6 = some (some 100, .extract (.tmp 94) 0, none) from by kernel_rfl) (by kernel_rfl) (by kernel_rfl) (by kernel_rfl) (by rfl) ?_
        refine run_extract (vs := #[.agg #[.int .i64 yuk, .slice yua1 yun1 yum1, .slice yua2 yun2 yum2, .slice yua3 yun3 yum3, .slice yua4 yun4 yum4, .slice yua5 yun5 yum5, .int .i64 yuc, .int .i64 yue], .string sv]) (v := .string sv) (show opAt (opsOf Tryz.f3 31) 7 = some (some 101, .extract (.tmp 94) 1, none) from by kernel_rfl) (by kernel_rfl) (by kernel_rfl) (by kernel_rfl) (by rfl) ?_
        refine run_store (w' := World.setRow _ n8 #[.int .i64 yuk, .slice yua1 yun1 yum1, .slice yua2 yun2 yum2, .slice yua3 yun3 yum3, .slice yua4 yun4 yum4, .slice yua5 yun5 yum5, .int .i64 yuc, .int .i64 yue]) (show opAt (opsOf Tryz.f3 31) 9 = some (none, .store 31 (.tmp 15) (.tmp 100), none) from by kernel_rfl) (by kernel_rfl) (by kernel_rfl) (by kernel_rfl) (store_vec8 N8.out.out (by simp [Value.oneCell'])) (⟨below_row H.out.1 G8.out _, fun q hq => row_old (H.out.2 q hq) (by have := F8_0.out; have := F8_1.out; simp only [List.mem_cons, List.not_mem_nil, or_false] at hq; rcases hq with rfl | rfl <;> (simp only; omega))⟩) ?_
        refine run_asg (v := .string sv) (show opAt (opsOf Tryz.f3 31) 10 = some (some 16, .assign (.tmp 101), none) from by kernel_rfl) (by kernel_rfl) (by kernel_rfl) (by kernel_rfl) ?_
        refine run_done ?_
        simp only [putAll, Act.put, List.setIfInBounds_toArray, List.set_cons_zero, List.set_cons_succ]
        go_wp2_with fail
        go_meet
        exact ⟨_, _, rfl, rfl, ⟨row_set N8.out.out, (OU.out.own.rowO (by first | (left; have := UB.out; omega) | (right; have := NE8.out; omega))).wide LU.out (Nat.le_trans OU.out.hh (row_size _ _ _)), below_row H.out.1 G8.out _, G8.out⟩⟩
    · refine run_new (C := #[.int .i64 0, .slice none 0 0, .slice none 0 0, .slice none 0 0, .slice none 0 0, .slice none 0 0, .int .i64 0, .int .i64 0]) (show opAt (opsOf Tryz.f3 31) 8 = some (some 15, .alloc 31, none) from by kernel_rfl) (by kernel_rfl) (by kernel_rfl) new_vec (fun W8 n8 hW8 hn8 => ?_)
      subst hW8
      refine ⟨heldC_call H.out (below1 _ _), ?_⟩
      have N8 := Lib.hid (⟨blk_new _ _ hn8⟩ : NewB n8 31 #[.int .i64 0, .slice none 0 0, .slice none 0 0, .slice none 0 0, .slice none 0 0, .slice none 0 0, .int .i64 0, .int .i64 0] _)
      have G8 := Lib.hid (by rw [hn8]; exact H.out.1.size : w16.heap.size ≤ n8)
      have F8_0 := Lib.hid (by rw [hn8]; exact (Array.getElem?_eq_some_iff.1 (heldC_at H.out (List.Mem.head _))).1 : w.heap.size < n8)
      have F8_1 := Lib.hid (by rw [hn8]; exact (Array.getElem?_eq_some_iff.1 (heldC_at H.out (List.Mem.tail _ (List.Mem.head _)))).1 : (w.heap.size + 1) < n8)
      have H := Lib.hid (heldC_call H.out (below1 _ (.cells #[.int .i64 0, .slice none 0 0, .slice none 0 0, .slice none 0 0, .slice none 0 0, .slice none 0 0, .int .i64 0, .int .i64 0] 31)))
      have NE8 := Lib.hid hn8
      clear hn8
      refine run_call (args := [.agg #[.int .i64 p0k, .slice p0a1 p0n1 p0m1, .slice p0a2 p0n2 p0m2, .slice p0a3 p0n3 p0m3, .slice p0a4 p0n4 p0m4, .slice p0a5 p0n5 p0m5, .int .i64 p0c, .int .i64 p0e]]) (show opAt (opsOf Tryz.f3 31) 1 = some (some 96, .call { callee := .value (.func 6), args := [(.tmp 95)].toArray, argTypes := [26].toArray }, none) from by kernel_rfl) (by kernel_rfl) (by kernel_rfl) (by kernel_rfl) (by kernel_rfl) ?_
      refine (TO0.out _ (below_then B18.out H.out.1)).mono ?_
      rintro en rw1 ⟨yt0, rfl, ho, hb⟩
      refine ⟨_, rfl, heldC_call H.out hb, ?_⟩
      have H := Lib.hid (heldC_call H.out hb)
      have N8 := Lib.hid (N8.out.keep hb)
      have A0 := Lib.hid (ResV.vatH ho)
      clear ho hb
      refine run_call (args := [.agg #[.int .i64 p1k, .slice p1a1 p1n1 p1m1, .slice p1a2 p1n2 p1m2, .slice p1a3 p1n3 p1m3, .slice p1a4 p1n4 p1m4, .slice p1a5 p1n5 p1m5, .int .i64 p1c, .int .i64 p1e]]) (show opAt (opsOf Tryz.f3 31) 3 = some (some 98, .call { callee := .value (.func 6), args := [(.tmp 97)].toArray, argTypes := [26].toArray }, none) from by kernel_rfl) (by kernel_rfl) (by kernel_rfl) (by kernel_rfl) (by kernel_rfl) ?_
      refine (TO1.out _ (below_then B18.out H.out.1)).mono ?_
      rintro en rw2 ⟨yt1, rfl, ho, hb⟩
      refine ⟨_, rfl, heldC_call H.out hb, ?_⟩
      have H := Lib.hid (heldC_call H.out hb)
      have N8 := Lib.hid (N8.out.keep hb)
      have A0 := Lib.hid (A0.out.keep hb)
      have A1 := Lib.hid (ResV.vatH ho)
      clear ho hb
      refine run_call (args := [yt0, yt1]) (show opAt (opsOf Tryz.f3 31) 4 = some (some 99, .call { callee := .value (.func 7), args := [(.tmp 96), (.tmp 98)].toArray, argTypes := [31, 31].toArray }, none) from by kernel_rfl) (by kernel_rfl) (by kernel_rfl) (by kernel_rfl) (by kernel_rfl) ?_
      refine (IM.out _ yt0 yt1 A0.out.out A1.out.out (below_then B18.out H.out.1)).mono ?_
      rintro en rw3 ⟨yu, rfl, ho, hb⟩
      refine ⟨_, rfl, heldC_call H.out hb, ?_⟩
      obtain ⟨yuk, yua1, yun1, yum1, yua2, yun2, yum2, yua3, yun3, yum3, yua4, yun4, yum4, yua5, yun5, yum5, yuc, yue, rfl⟩ := ho.agg
      (try have UB := Lib.hid (Array.getElem?_eq_some_iff.1 N8.out.out).1)
      have LU := Lib.hid H.out.1.size
      have H := Lib.hid (heldC_call H.out hb)
      have N8 := Lib.hid (N8.out.keep hb)
      have A0 := Lib.hid (A0.out.keep hb)
      have A1 := Lib.hid (A1.out.keep hb)
      have OU := Lib.hid (⟨ho, Nat.le_refl _⟩ : OwnH 1 V _ _ _ _)
      clear ho hb
      refine run_mov (v := .tuple #[.agg #[.int .i64 yuk, .slice yua1 yun1 yum1, .slice yua2 yun2 yum2, .slice yua3 yun3 yum3, .slice yua4 yun4 yum4, .slice yua5 yun5 yum5, .int .i64 yuc, .int .i64 yue], .string sv]) (show opAt (opsOf Tryz.f3 31) 5 = some (some 94, .move (.tmp 99), none) from by kernel_rfl) (by kernel_rfl) (by kernel_rfl) (by kernel_rfl) ?_
      refine run_extract (vs := #[.agg #[.int .i64 yuk, .slice yua1 yun1 yum1, .slice yua2 yun2 yum2, .slice yua3 yun3 yum3, .slice yua4 yun4 yum4, .slice yua5 yun5 yum5, .int .i64 yuc, .int .i64 yue], .string sv]) (v := .agg #[.int .i64 yuk, .slice yua1 yun1 yum1, .slice yua2 yun2 yum2, .slice yua3 yun3 yum3, .slice yua4 yun4 yum4, .slice yua5 yun5 yum5, .int .i64 yuc, .int .i64 yue]) (show opAt (opsOf Tryz.f3 31) 6 = some (some 100, .extract (.tmp 94) 0, none) from by kernel_rfl) (by kernel_rfl) (by kernel_rfl) (by kernel_rfl) (by rfl) ?_
      refine run_extract (vs := #[.agg #[.int .i64 yuk, .slice yua1 yun1 yum1, .slice yua2 yun2 yum2, .slice yua3 yun3 yum3, .slice yua4 yun4 yum4, .slice yua5 yun5 yum5, .int .i64 yuc, .int .i64 yue], .string sv]) (v := .string sv) (show opAt (opsOf Tryz.f3 31) 7 = some (some 101, .extract (.tmp 94) 1, none) from by kernel_rfl) (by kernel_rfl) (by kernel_rfl) (by kernel_rfl) (by rfl) ?_
      refine run_store (w' := World.setRow _ n8 #[.int .i64 yuk, .slice yua1 yun1 yum1, .slice yua2 yun2 yum2, .slice yua3 yun3 yum3, .slice yua4 yun4 yum4, .slice yua5 yun5 yum5, .int .i64 yuc, .int .i64 yue]) (show opAt (opsOf Tryz.f3 31) 9 = some (none, .store 31 (.tmp 15) (.tmp 100), none) from by kernel_rfl) (by kernel_rfl) (by kernel_rfl) (by kernel_rfl) (store_vec8 N8.out.out (by simp [Value.oneCell'])) (⟨below_row H.out.1 G8.out _, fun q hq => row_old (H.out.2 q hq) (by have := F8_0.out; have := F8_1.out; simp only [List.mem_cons, List.not_mem_nil, or_false] at hq; rcases hq with rfl | rfl <;> (simp only; omega))⟩) ?_
      refine run_asg (v := .string sv) (show opAt (opsOf Tryz.f3 31) 10 = some (some 16, .assign (.tmp 101), none) from by kernel_rfl) (by kernel_rfl) (by kernel_rfl) (by kernel_rfl) ?_
      refine run_done ?_
      simp only [putAll, Act.put, List.setIfInBounds_toArray, List.set_cons_zero, List.set_cons_succ]
      go_wp2_with fail
      go_meet
      exact ⟨_, _, rfl, rfl, ⟨row_set N8.out.out, (OU.out.own.rowO (by first | (left; have := UB.out; omega) | (right; have := NE8.out; omega))).wide LU.out (Nat.le_trans OU.out.hh (row_size _ _ _)), below_row H.out.1 G8.out _, G8.out⟩⟩
  obtain ⟨w17, rfl⟩ : ∃ u : World, u = wc := ⟨_, rfl⟩
  obtain ⟨gh, C, rfl, rfl, hm⟩ := hcut
  obtain ⟨hk, ha1, hn1, hm1, ha2, hn2, hm2, ha3, hn3, hm3, ha4, hn4, hm4, ha5, hn5, hm5, hc, he, rfl⟩ := hm.cells
  clear H
  have b := hm.below
  have Z19 := Lib.hid b.size
  have B19 := Lib.hid (below_then B18.out b)
  have Kp019 := Lib.hid (blk_below b Kp018.out)
  clear Kp018
  have Kp119 := Lib.hid (blk_below b Kp118.out)
  clear Kp118
  have Ku19 := Lib.hid (blk_below b Ku18.out)
  clear Ku18
  have Ou19 := Lib.hid (Ou18.out.below b Ouh18.out)
  have Ouh19 := Lib.hid (Nat.le_trans Ouh18.out b.size)
  clear Ou18 Ouh18
  have Og19 := Lib.hid (Og18.out.below b Ogh18.out)
  have Ogh19 := Lib.hid (Nat.le_trans Ogh18.out b.size)
  clear Og18 Ogh18
  have Kg19 := Lib.hid (blk_below b Kg18.out)
  clear Kg18
  clear b
  have ZSh := Lib.hid (Array.getElem?_eq_some_iff.1 hm.blk).1
  have Kh19 := Lib.hid (hm.blk)
  have Oh19 := Lib.hid (hm.own)
  have Ohh19 := Lib.hid ((Nat.le_refl _) : w17.heap.size ≤ w17.heap.size)
  clear hm
  obtain ⟨hk0, hk1, hk2, hk3, hk4, hk5, hk6, hk7⟩ := vec8 Kh19.out
  obtain ⟨uk0, uk1, uk2, uk3, uk4, uk5, uk6, uk7⟩ := vec8 Ku19.out
  go_wp2_with fail
  with_reducible refine (EQ.out _ _ _ (Oh19.out.vat Ohh19.out) (Ou19.out.vat Ouh19.out)).mono ?_
  rintro e w18 ⟨rfl, b⟩
  try clear hzh
  clear hk0 hk1 hk2 hk3 hk4 hk5 hk6 hk7
  try clear hzu
  clear uk0 uk1 uk2 uk3 uk4 uk5 uk6 uk7
  have Z20 := Lib.hid b.size
  have B20 := Lib.hid (below_then B19.out b)
  have Kp020 := Lib.hid (blk_below b Kp019.out)
  clear Kp019
  have Kp120 := Lib.hid (blk_below b Kp119.out)
  clear Kp119
  have Ku20 := Lib.hid (blk_below b Ku19.out)
  clear Ku19
  have Ou20 := Lib.hid (Ou19.out.below b Ouh19.out)
  have Ouh20 := Lib.hid (Nat.le_trans Ouh19.out b.size)
  clear Ou19 Ouh19
  have Og20 := Lib.hid (Og19.out.below b Ogh19.out)
  have Ogh20 := Lib.hid (Nat.le_trans Ogh19.out b.size)
  clear Og19 Ogh19
  have Kg20 := Lib.hid (blk_below b Kg19.out)
  clear Kg19
  have Kh20 := Lib.hid (blk_below b Kh19.out)
  clear Kh19
  have Oh20 := Lib.hid (Oh19.out.below b Ohh19.out)
  have Ohh20 := Lib.hid (Nat.le_trans Ohh19.out b.size)
  clear Oh19 Ohh19
  clear b
  obtain ⟨gk0, gk1, gk2, gk3, gk4, gk5, gk6, gk7⟩ := vec8 Kg20.out
  go_wp2_with fail
  with_reducible refine (HV.out _ _ _ _ Og20.out Ogh20.out).mono ?_
  rintro e w19 ⟨rfl, b⟩
  try clear hzg
  clear gk0 gk1 gk2 gk3 gk4 gk5 gk6 gk7
  have Z21 := Lib.hid b.size
  have B21 := Lib.hid (below_then B20.out b)
  have Kp021 := Lib.hid (blk_below b Kp020.out)
  clear Kp020
  have Kp121 := Lib.hid (blk_below b Kp120.out)
  clear Kp120
  have Ku21 := Lib.hid (blk_below b Ku20.out)
  clear Ku20
  have Ou21 := Lib.hid (Ou20.out.below b Ouh20.out)
  have Ouh21 := Lib.hid (Nat.le_trans Ouh20.out b.size)
  clear Ou20 Ouh20
  have Og21 := Lib.hid (Og20.out.below b Ogh20.out)
  have Ogh21 := Lib.hid (Nat.le_trans Ogh20.out b.size)
  clear Og20 Ogh20
  have Kg21 := Lib.hid (blk_below b Kg20.out)
  clear Kg20
  have Kh21 := Lib.hid (blk_below b Kh20.out)
  clear Kh20
  have Oh21 := Lib.hid (Oh20.out.below b Ohh20.out)
  have Ohh21 := Lib.hid (Nat.le_trans Ohh20.out b.size)
  clear Oh20 Ohh20
  clear b
  go_wp2
  go_ret
  exact ⟨rfl, B21.out⟩

set_option maxRecDepth 100000 in
theorem contract (H : Type) (enc : TypeId × Value → H) (W : World) (base : Nat) (args : Array Value) (ds gs : List (DataW H)) (before : List MemPlace)
    (hval : ∀ (j : Nat) t v, Tryz.f3.params[j]? = some t → args[j]? = some v → Value.okWide Tryz.prog W .any base t v)
    (hW : DataW.Whole enc Tryz.prog Tryz.f3.params.toList Rows.fnExactMatchInSpec.vars false W args.toList ds gs before) (hL : laidMetH Tryz.prog Rows.fnExactMatchInRow.laid W) (hsh : W.ShapedOpen Tryz.prog) :
    Calls Tryz.prog 3 args W fun e W' => ∃ v, e = .returned v ∧ Rows.fnExactMatchInSpec.post enc Tryz.prog Tryz.f3 false true false false W args v W' := by
  have hW' := hW
  obtain ⟨p, q, hA0, hV, rfl, hfz, hnd⟩ := hW
  have hA : DataW.TrodAll enc Tryz.prog W 0 (fun _ => true) true Tryz.f3.params.toList args.toList ds p := hA0
  rw [Tryz.params3] at hA hval
  obtain ⟨v0, vs0, d0, ds0, p0, q0, hargs0, rfl, rfl, h0, r0⟩ := trodAll_cons hA
  obtain ⟨v1, vs1, d1, ds1, p1, q1, hargs1, rfl, rfl, h1, r1⟩ := trodAll_cons r0
  obtain ⟨hnil, rfl, rfl⟩ := trodAll_nil r1
  have eargs : args.toList = [v0, v1] := by rw [hargs0, hargs1, hnil]
  obtain rfl : args = #[v0, v1] := Array.toList_inj.1 eargs
  obtain ⟨rfl, rfl⟩ := trodVars_none hV
  have k0 := h0
  have lt0 : ∀ x ∈ p0, x.block < W.heap.size := by obtain ⟨m, hm⟩ := k0; exact DataW.trod_lt m _ _ _ hm
  have k1 := h1
  have lt1 : ∀ x ∈ p1, x.block < W.heap.size := by obtain ⟨m, hm⟩ := k1; exact DataW.trod_lt m _ _ _ hm
  clear hA0 eargs hargs0 hargs1
  obtain ⟨d0, x0, hv0, hf0⟩ := vec_in (hval 0 26 v0 rfl rfl) h0
  obtain ⟨d1, x1, hv1, hf1⟩ := vec_in (hval 1 26 v1 rfl rfl) h1
  have hl : laidMet Tryz.prog Rows.fnExactMatchInRow.laid W := (MakeChecks.laidMetH_plain Tryz.prog Rows.fnExactMatchInRow.laid W (by kernel_rfl)) ▸ hL
  refine (walk x0 d0 v0 x1 d1 v1 W hv0 hf0 hv1 hf1 (powOf hl) hsh).mono fun e W' ⟨he, bel⟩ => ?_
  subst he
  have kp0 := Below.trod laidOut (show Tryz.prog.readableRec 26 = true by kernel_rfl) (of_decide_eq_true (by kernel_rfl)) k0 bel lt0
  have kp1 := Below.trod laidOut (show Tryz.prog.readableRec 26 = true by kernel_rfl) (of_decide_eq_true (by kernel_rfl)) k1 bel lt1
  exact ⟨_, rfl, _, _, _, [], _, [], hW', trodAll_mk1 (shut_bool Tryz.underlying4 _), (trodAll_cons_mk kp0 (trodAll_cons_mk kp1 trodAll_mk0)), rfl, bel.frame _, fun h => by cases h⟩

/-- The heap that the program's own initialisers leave meets the list. -/
theorem door_met (os : Os) (args : Array Value) : laidMetH Tryz.prog Rows.fnExactMatchInRow.laid ((World.doorLaid Tryz.prog 65 os).forCall (fun _ _ => 0) ⟨#[], args, []⟩).memory :=
  laidMetH_of_parts3 (fuel := 8) (laidMet_of_run' 8 (by kernel_rfl) (by kernel_rfl)) (by kernel_rfl) (by kernel_rfl)
theorem reads (os : Os) {H : Type} (enc : TypeId × Value → H) : ∃ places, DataW.whole enc Tryz.prog ((World.doorLaid Tryz.prog 65 os).forCall (fun _ _ => 0) ⟨#[], #[.agg #[.int .i64 0, .slice none 0 0, .slice none 0 0, .slice none 0 0, .slice none 0 0, .slice none 0 0, .int .i64 0, .int .i64 0], .agg #[.int .i64 0, .slice none 0 0, .slice none 0 0, .slice none 0 0, .slice none 0 0, .slice none 0 0, .int .i64 0, .int .i64 0]], []⟩).memory Tryz.f3.params.toList Rows.fnExactMatchInSpec.vars false #[.agg #[.int .i64 0, .slice none 0 0, .slice none 0 0, .slice none 0 0, .slice none 0 0, .slice none 0 0, .int .i64 0, .int .i64 0], .agg #[.int .i64 0, .slice none 0 0, .slice none 0 0, .slice none 0 0, .slice none 0 0, .slice none 0 0, .int .i64 0, .int .i64 0]].toList 8 = some ([.agg [.lit (.int .i64 0), .nil, .nil, .nil, .nil, .nil, .lit (.int .i64 0), .lit (.int .i64 0)], .agg [.lit (.int .i64 0), .nil, .nil, .nil, .nil, .nil, .lit (.int .i64 0), .lit (.int .i64 0)]], [], places) :=
  ⟨[], by kernel_rfl⟩

set_option maxRecDepth 100000 in
theorem lifted (os : Os) (started : os.Started) (H : Type) (enc : TypeId × Value → H) (F : Stop.Interp) :
    ReturnsInHanded {} Tryz.checked os 3 .any ((OpenSpec.ofChange Rows.fnExactMatchInSpec).preRow enc Tryz.prog Tryz.f3 Rows.fnExactMatchInRow.domain false Rows.fnExactMatchInRow.laid) (((OpenSpec.ofChange Rows.fnExactMatchInSpec).at F).post enc Tryz.prog Tryz.f3 false true false false) := by
  obtain ⟨places, hx⟩ := reads os enc
  refine returnsInHanded_of_row (C := Tryz.checked) (s := OpenSpec.ofChange Rows.fnExactMatchInSpec) own started (by kernel_rfl) Tryz.func3
    ⟨World.doorLaid Tryz.prog 65 os, fun _ _ => 0, ⟨#[], #[.agg #[.int .i64 0, .slice none 0 0, .slice none 0 0, .slice none 0 0, .slice none 0 0, .slice none 0 0, .int .i64 0, .int .i64 0], .agg #[.int .i64 0, .slice none 0 0, .slice none 0 0, .slice none 0 0, .slice none 0 0, .slice none 0 0, .int .i64 0, .int .i64 0]], []⟩, rfl, World.shaped_of_RefB (by kernel_rfl) (by kernel_rfl), rfl, (Input.okWide_of_okWideB (by kernel_rfl)).2,
      OpenSpec.preRow_of_cond 8 hx (by kernel_rfl) (fun k hk => by cases hk) (by kernel_rfl) (door_met os _), by simp [Assume.holds]⟩ ?_
  intro W base args ds gs before hval hW _ _ _ hL hsh _
  exact contract H enc W base args ds gs before hval hW hL hsh

theorem said : Rows.FnExactMatchInSaid :=
  OpenClaim.holds_of_cond 3 Tryz.f3 rfl rfl rfl rfl rfl rfl rfl ⟨rfl, rfl, rfl, rfl, rfl⟩ rfl rfl rfl rfl rfl (by kernel_rfl) Tryz.func3 (by kernel_rfl)
    (of_decide_eq_true (by kernel_rfl)) (by unfold Func.isWrapper; first | (rw [if_pos (by decide +kernel)]; kernel_rfl) | (rw [if_neg (by decide +kernel)]; exact ⟨rfl, rfl⟩))
    (fun os started H enc _ F => by rw [OpenClaim.pre_eq_preRow]; exact lifted os started H enc F)

theorem plain (f : FuncId) (fn : Func) (hf : Tryz.pinned.checked.prog.funcNamed "loop.example/g03406/laws.FnExactMatchIn" = some f) (hfn : Tryz.pinned.checked.prog.funcs[f]? = some fn) :
    false = Tryz.pinned.checked.prog.looks [] ∧ ∀ (j : Nat) t, fn.params[j]? = some t → Tryz.pinned.checked.prog.wantsStandIn t = false := by
  obtain rfl : f = 3 := Option.some.inj ((show Tryz.prog.funcNamed "loop.example/g03406/laws.FnExactMatchIn" = some 3 by kernel_rfl).symm.trans hf) |>.symm
  obtain rfl : fn = Tryz.f3 := (Option.some.inj (Tryz.func3.symm.trans hfn)).symm
  refine ⟨by kernel_rfl, fun j t ht => ?_⟩
  rw [Tryz.params3] at ht
  have hm := Array.mem_of_getElem? ht
  simp at hm
  rcases hm with rfl
  · exact (show Tryz.prog.wantsStandIn 26 = false by kernel_rfl)

theorem card : Rows.FnExactMatchInCardSaid :=
  Claim7.holds_tied_plain_at .later [] _ _ _ _ said (fun _ h => by cases h) (by kernel_rfl) (fun _ h => by cases h) fnExactMatchIn_row_tie rfl ⟨rfl, rfl⟩ (by kernel_rfl) rfl plain (by kernel_rfl)
end Go.Proofs.YtikgcogiiohahaaGreatDoor.fnExactMatchIn
