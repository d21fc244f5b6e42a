/- SequenceOf on both sides. -/
import Derived.Test.YteigfhenbmhepaaRows
import Derived.Test.YteigfhenbmhepaaVecRet
import Derived.Test.YteigfhenbmhepaaVecNum
import Derived.Test.YteigfhenbmhepaaLawItems
import Derived.IntWalk
import Derived.WalkKit
import Derived.OwnWalk
import Derived.Deep.DeepCutAuto
import Derived.Lib.Hide
namespace Go.Proofs.Yteigfhenbmhepaa
open Go.RowKit
set_option maxRecDepth 100000
set_option linter.unusedVariables false

def InW (x : Int) : Prop := -999999999 ≤ x ∧ x ≤ 999999999
def SeqOk (a b : Int) : Prop := InW a ∧ InW b ∧ (b - a).natAbs < 40
def seqI (a b : Int) (i : Nat) : Int := if a ≤ b then a + (i : Int) else a - (i : Int)
def seqG (a b : Int) (i : Nat) : It := ⟨seqI a b i, 1, ⟨#[]⟩⟩
noncomputable def seqV (a b : Int) : Vec := match bB (SeqOk a b) with | true => vecOf 2 (itF (seqG a b) ((b - a).natAbs + 1)) | false => noV
noncomputable def seqS (a b : Int) : ByteArray := match bB (SeqOk a b) with | true => ⟨#[]⟩ | false => bigB
theorem seqV_yes {a b : Int} (h : SeqOk a b) : seqV a b = vecOf 2 (itF (seqG a b) ((b - a).natAbs + 1)) := by unfold seqV; rw [bB_yes h]
theorem seqV_no {a b : Int} (h : ¬ SeqOk a b) : seqV a b = noV := by unfold seqV; rw [bB_no h]
theorem seqS_yes {a b : Int} (h : SeqOk a b) : seqS a b = ⟨#[]⟩ := by unfold seqS; rw [bB_yes h]
theorem seqS_no {a b : Int} (h : ¬ SeqOk a b) : seqS a b = bigB := by unfold seqS; rw [bB_no h]
theorem wrap64_id {x : Int} (h0 : -9223372036854775808 ≤ x) (h1 : x ≤ 9223372036854775807) : IntKind.wrap .i64 x = x := by
  exact IntWalk.i64_in x ⟨h0, h1⟩
theorem numI_whole {x : Int} (h : InW x) : numI x = ⟨x, 1, ⟨#[]⟩⟩ := by
  have e : Rat.divInt x 1 = (x : Rat) := by rw [Rat.divInt_eq_div]; grind
  have hn : isN ⟨(Rat.divInt x 1).num, (Rat.divInt x 1).den, ⟨#[]⟩⟩ = true := by
    rw [e, isN_iff]
    obtain ⟨h0, h1⟩ := h
    refine ⟨rfl, by simp, by simp, by simpa using h0, by simpa using h1, by simp⟩
  unfold numI
  obtain ⟨h0, h1⟩ := h
  rw [mkI_ok (by unfold okR; omega), ofQ_yes hn, e]
  simp
theorem seqI_in {a b : Int} (h : SeqOk a b) {i : Nat} (hi : i < (b - a).natAbs + 1) : InW (seqI a b i) := by
  obtain ⟨⟨h0, h1⟩, ⟨h2, h3⟩, h4⟩ := h
  unfold seqI InW; split <;> omega
theorem itF_congr {g h : Nat → It} {n : Nat} (e : ∀ i, i < n → g i = h i) : itF g n = itF h n := by
  unfold itF
  exact List.map_congr_left (fun i hi => e i (List.mem_range.1 hi))
theorem seq_items {a b : Int} (h : SeqOk a b) : itF (fun i => numI (seqI a b i)) ((b - a).natAbs + 1) = itF (seqG a b) ((b - a).natAbs + 1) :=
  itF_congr (fun i hi => numI_whole (seqI_in h hi))
set_option maxHeartbeats 4000000 in
theorem specSeq (a b : Int) (w : World) (ha : -9223372036854775808 ≤ a ∧ a ≤ 9223372036854775807) (hb : -9223372036854775808 ≤ b ∧ b ≤ 9223372036854775807) :
    Calls Try.prog 29 #[.int .i64 a, .int .i64 b] w (ResVS 1 (seqV a b) (seqS a b) w) := by
  have ZS := Lib.hid (fun W (hB : Below w.heap.size w W) => zeroS bigB w W hB)
  by_cases h1 : InW a
  · by_cases h2 : InW b
    · have I1 := Lib.hid (fun W => inYes a (-999999999) 999999999 W h1.1 h1.2)
      have I2 := Lib.hid (fun W => inYes b (-999999999) 999999999 W h2.1 h2.2)
      have a0 : -999999999 ≤ a := h1.1
      have a1 : a ≤ 999999999 := h1.2
      have b0 : -999999999 ≤ b := h2.1
      have b1 : b ≤ 999999999 := h2.2
      have AB := Lib.hid (fun W => specAbs (b - a) W (by omega) (by omega))
      by_cases h3 : (b - a).natAbs < 40
      · have hok : SeqOk a b := ⟨h1, h2, h3⟩
        rw [seqV_yes hok, seqS_yes hok]
        obtain ⟨n, hn⟩ : ∃ n, (b - a).natAbs = n := ⟨_, rfl⟩
        have HN := Lib.hid hn
        rw [hn] at h3 AB ⊢
        clear hn hok h1 h2 ha hb
        have ST := Lib.hid (AppL.start w 2)
        have NU := Lib.hid (fun x W => specNum2 x W)
        go_enter Try.func29, Try.ntmps29
        go_wp2_with fail
        with_reducible refine (I1.out _).mono ?_
        rintro e w' ⟨rfl, rfl⟩
        go_wp2_with fail
        with_reducible refine (I2.out _).mono ?_
        rintro e w' ⟨rfl, rfl⟩
        go_wp2_with fail
        with_reducible refine (AB.out _).mono ?_
        rintro e w' ⟨rfl, rfl⟩
        go_wp2
        go_loopw [7] (fun i wr => ∃ (k : Nat) (sa : Option Addr) (sn sc : Nat), k ≤ n + 1 ∧ i = .int .i64 k ∧ AppL w wr 2 (itF (seqG a b) k) sa sn sc) (fun i _ => n + 1 - (intOf i).toNat)
        case atStart => exact ⟨0, none, 0, 0, Nat.zero_le _, rfl, ST.out⟩
        case round =>
          obtain ⟨k, sa, sn, sc, hk, rfl, hap⟩ := hrel
          have AP := Lib.hid hap
          clear hap
          by_cases hlt : k < n + 1
          · have LN := Lib.hid (show (itF (seqG a b) k).length ≤ 1048576 by rw [itF_len]; omega)
            have HZ := Lib.hid AP.out.big
            have H := Lib.hid AP.out.heldC
            have OR := Lib.hid AP.out.row
            have FAR := Lib.hid (fun q hq => AP.out.far (q := q) hq)
            have NX0 := Lib.hid (itF_succ (seqG a b) k)
            go_wp2_with fail
            with_reducible refine (AB.out _).mono ?_
            rintro e w' ⟨rfl, rfl⟩
            have hle : (k : Int) ≤ (n : Int) := by omega
            by_cases hab : a ≤ b
            · have NX := Lib.hid (show itF (seqG a b) k ++ [⟨a + (k : Int), 1, ⟨#[]⟩⟩] = itF (seqG a b) (k + 1) by rw [← NX0.out]; unfold seqG seqI; rw [if_pos hab])
              go_wp2
              refine run_region (ops := (opsOf Try.f29 8)) (S := fun w' => HeldC w w' ([(w.heap.size, 27, #[.int .i64 0, .slice none 0 0, .slice none 0 0, .slice none 0 0, .slice none 0 0, .slice none 0 0, .int .i64 0, .int .i64 0]), (w.heap.size + 1, 27, #[.int .i64 2, .slice sa sn sc, .slice none 0 0, .slice none 0 0, .slice none 0 0, .slice none 0 0, .int .i64 0, .int .i64 0])])) [(0, true), (1, true), (2, true), (3, true), (4, true), (5, false), (6, false), (7, false), (8, true), (9, false)] (by kernel_rfl) (by kernel_rfl) (by kernel_rfl) (by kernel_rfl) (by kernel_rfl) (fun _ _ _ _ _ h => h) (heldC_drew H.out) ?_
              have H := Lib.hid (heldC_drew H.out)
              have OR := Lib.hid (ownsRow_below OR.out (below_drew' (Below.refl _ _)))
              refine runC_partV (b := w.heap.size + 1) (by kernel_rfl) (show opAt (opsOf Try.f29 8) 0 = some (some 36, .fieldAddr 27 (.tmp 6) 1, none) from by kernel_rfl) (by kernel_rfl) (by kernel_rfl) (by kernel_rfl) ?_
              refine runC_cell (b := w.heap.size + 1) (j := 1) (v := .slice sa sn sc) load_its (show opAt (opsOf Try.f29 8) 1 = some (some 37, .load 23 (.tmp 36), none) from by kernel_rfl) (by kernel_rfl) (by kernel_rfl) (by kernel_rfl) (List.Mem.tail _ (List.Mem.head _)) rfl ?_
              refine run_mov (v := .int .i64 a) (show opAt (opsOf Try.f29 8) 2 = some (some 38, .move (.tmp 0), none) from by kernel_rfl) (by kernel_rfl) (by kernel_rfl) (by kernel_rfl) ?_
              refine run_mov (v := .int .i64 ((k : Int))) (show opAt (opsOf Try.f29 8) 3 = some (some 39, .move (.tmp 7), none) from by kernel_rfl) (by kernel_rfl) (by kernel_rfl) (by kernel_rfl) ?_
              refine run_add (k := .i64) (p := a) (q := (k : Int)) (z := (a + (k : Int))) (show opAt (opsOf Try.f29 8) 4 = some (some 40, .binOp .add 3 (.tmp 38) (.tmp 39) 3, none) from by kernel_rfl) (by kernel_rfl) (by kernel_rfl) (by kernel_rfl) (by kernel_rfl) (wrap64_id (by omega) (by omega)) ?_
              refine run_call (args := [.int .i64 ((a + (k : Int)))]) (show opAt (opsOf Try.f29 8) 5 = some (some 41, .call { callee := .value (.func 50), args := [(.tmp 40)].toArray, argTypes := [3].toArray }, none) from by kernel_rfl) (by kernel_rfl) (by kernel_rfl) (by kernel_rfl) (by kernel_rfl) ?_
              refine (NU.out (a + (k : Int)) _).mono ?_
              rintro en rw1 ⟨rfl, hb⟩
              refine ⟨_, rfl, heldC_call H.out hb, ?_⟩
              have H := Lib.hid (heldC_call H.out hb)
              have OR := Lib.hid (ownsRow_below OR.out hb)
              clear hb
              refine tail_item ⟨a + (k : Int), 1, ⟨#[]⟩⟩ (show opAt (opsOf Try.f29 8) 6 = some (some 42, .buildSlice 23 1 #[(0, (.tmp 41))], none) from by kernel_rfl) (by kernel_rfl) (by kernel_rfl) (show opAt (opsOf Try.f29 8) 7 = some (some 43, .call { callee := .builtin .append, args := [(.tmp 37), (.tmp 42)].toArray, argTypes := [23, 23].toArray }, none) from by kernel_rfl) (by kernel_rfl) (fun _ => by kernel_rfl) (show opAt (opsOf Try.f29 8) 8 = some (some 44, .fieldAddr 27 (.tmp 6) 1, none) from by kernel_rfl) (by kernel_rfl) (by kernel_rfl) (fun _ _ => by kernel_rfl) (show opAt (opsOf Try.f29 8) 9 = some (none, .store 23 (.tmp 44) (.tmp 43), none) from by kernel_rfl) (by kernel_rfl) (by kernel_rfl) H.out OR.out LN.out (Nat.succ_le_of_lt (Array.getElem?_eq_some_iff.1 (heldC_at H.out (List.Mem.tail _ (List.Mem.head _)))).1) (Nat.le_add_right _ 2) (List.Mem.tail _ (List.Mem.head _)) rfl (Nat.lt_succ_self _) (Nat.le_succ _) (fun q hq => FAR.out q hq) ?_
              rintro v' w2 ⟨sa, sn, sc, rfl⟩ hK hO hB hZ hR
              simp only [putAll, Act.put, List.setIfInBounds_toArray, List.set_cons_zero, List.set_cons_succ]
              have AN := Lib.hid (AppL.next (kind := 2) hK hO hB hR)
              clear hK hO hB hR H OR FAR HZ LN
              go_wp2
              go_roundw
              case rel => exact ⟨k + 1, sa, sn, sc, by omega, by go_num, NX.out ▸ AN.out⟩
              case measure => simp [intOf]; omega
            · have NX := Lib.hid (show itF (seqG a b) k ++ [⟨a - (k : Int), 1, ⟨#[]⟩⟩] = itF (seqG a b) (k + 1) by rw [← NX0.out]; unfold seqG seqI; rw [if_neg hab])
              have hba : b < a := by omega
              go_wp2
              refine run_region (ops := (opsOf Try.f29 9)) (S := fun w' => HeldC w w' ([(w.heap.size, 27, #[.int .i64 0, .slice none 0 0, .slice none 0 0, .slice none 0 0, .slice none 0 0, .slice none 0 0, .int .i64 0, .int .i64 0]), (w.heap.size + 1, 27, #[.int .i64 2, .slice sa sn sc, .slice none 0 0, .slice none 0 0, .slice none 0 0, .slice none 0 0, .int .i64 0, .int .i64 0])])) [(0, true), (1, true), (2, true), (3, true), (4, true), (5, false), (6, false), (7, false), (8, true), (9, false)] (by kernel_rfl) (by kernel_rfl) (by kernel_rfl) (by kernel_rfl) (by kernel_rfl) (fun _ _ _ _ _ h => h) (heldC_drew H.out) ?_
              have H := Lib.hid (heldC_drew H.out)
              have OR := Lib.hid (ownsRow_below OR.out (below_drew' (Below.refl _ _)))
              refine runC_partV (b := w.heap.size + 1) (by kernel_rfl) (show opAt (opsOf Try.f29 9) 0 = some (some 45, .fieldAddr 27 (.tmp 6) 1, none) from by kernel_rfl) (by kernel_rfl) (by kernel_rfl) (by kernel_rfl) ?_
              refine runC_cell (b := w.heap.size + 1) (j := 1) (v := .slice sa sn sc) load_its (show opAt (opsOf Try.f29 9) 1 = some (some 46, .load 23 (.tmp 45), none) from by kernel_rfl) (by kernel_rfl) (by kernel_rfl) (by kernel_rfl) (List.Mem.tail _ (List.Mem.head _)) rfl ?_
              refine run_mov (v := .int .i64 a) (show opAt (opsOf Try.f29 9) 2 = some (some 47, .move (.tmp 0), none) from by kernel_rfl) (by kernel_rfl) (by kernel_rfl) (by kernel_rfl) ?_
              refine run_mov (v := .int .i64 ((k : Int))) (show opAt (opsOf Try.f29 9) 3 = some (some 48, .move (.tmp 7), none) from by kernel_rfl) (by kernel_rfl) (by kernel_rfl) (by kernel_rfl) ?_
              refine run_sub (k := .i64) (p := a) (q := (k : Int)) (z := (a - (k : Int))) (show opAt (opsOf Try.f29 9) 4 = some (some 49, .binOp .sub 3 (.tmp 47) (.tmp 48) 3, none) from by kernel_rfl) (by kernel_rfl) (by kernel_rfl) (by kernel_rfl) (by kernel_rfl) (wrap64_id (by omega) (by omega)) ?_
              refine run_call (args := [.int .i64 ((a - (k : Int)))]) (show opAt (opsOf Try.f29 9) 5 = some (some 50, .call { callee := .value (.func 50), args := [(.tmp 49)].toArray, argTypes := [3].toArray }, none) from by kernel_rfl) (by kernel_rfl) (by kernel_rfl) (by kernel_rfl) (by kernel_rfl) ?_
              refine (NU.out (a - (k : Int)) _).mono ?_
              rintro en rw1 ⟨rfl, hb⟩
              refine ⟨_, rfl, heldC_call H.out hb, ?_⟩
              have H := Lib.hid (heldC_call H.out hb)
              have OR := Lib.hid (ownsRow_below OR.out hb)
              clear hb
              refine tail_item ⟨a - (k : Int), 1, ⟨#[]⟩⟩ (show opAt (opsOf Try.f29 9) 6 = some (some 51, .buildSlice 23 1 #[(0, (.tmp 50))], none) from by kernel_rfl) (by kernel_rfl) (by kernel_rfl) (show opAt (opsOf Try.f29 9) 7 = some (some 52, .call { callee := .builtin .append, args := [(.tmp 46), (.tmp 51)].toArray, argTypes := [23, 23].toArray }, none) from by kernel_rfl) (by kernel_rfl) (fun _ => by kernel_rfl) (show opAt (opsOf Try.f29 9) 8 = some (some 53, .fieldAddr 27 (.tmp 6) 1, none) from by kernel_rfl) (by kernel_rfl) (by kernel_rfl) (fun _ _ => by kernel_rfl) (show opAt (opsOf Try.f29 9) 9 = some (none, .store 23 (.tmp 53) (.tmp 52), none) from by kernel_rfl) (by kernel_rfl) (by kernel_rfl) H.out OR.out LN.out (Nat.succ_le_of_lt (Array.getElem?_eq_some_iff.1 (heldC_at H.out (List.Mem.tail _ (List.Mem.head _)))).1) (Nat.le_add_right _ 2) (List.Mem.tail _ (List.Mem.head _)) rfl (Nat.lt_succ_self _) (Nat.le_succ _) (fun q hq => FAR.out q hq) ?_
              rintro v' w2 ⟨sa, sn, sc, rfl⟩ hK hO hB hZ hR
              simp only [putAll, Act.put, List.setIfInBounds_toArray, List.set_cons_zero, List.set_cons_succ]
              have AN := Lib.hid (AppL.next (kind := 2) hK hO hB hR)
              clear hK hO hB hR H OR FAR HZ LN
              go_wp2
              go_roundw
              case rel => exact ⟨k + 1, sa, sn, sc, by omega, by go_num, NX.out ▸ AN.out⟩
              case measure => simp [intOf]; omega
          · obtain rfl : k = n + 1 := by omega
            have K1 := Lib.hid AP.out.vec
            have K0 := Lib.hid AP.out.res
            have FN := Lib.hid AP.out.fin
            obtain ⟨k0, k1, k2, k3, k4, k5, k6, k7⟩ := vec8 K1.out
            obtain ⟨z0, z1, z2, z3, z4, z5, z6, z7⟩ := vec8 K0.out
            obtain ⟨f0, f1, f2, f3, f4, f5, f6, f7⟩ := free8 K0.out
            go_wp2_with fail
            with_reducible refine (AB.out _).mono ?_
            rintro e w' ⟨rfl, rfl⟩
            go_wp2
            exact vec_endS rfl rfl rfl rfl K0.out FN.out.withS
      · have hno : ¬ SeqOk a b := fun h => h3 h.2.2
        rw [seqV_no hno, seqS_no hno]
        obtain ⟨n, hn⟩ : ∃ n, (b - a).natAbs = n := ⟨_, rfl⟩
        rw [hn] at h3 AB
        have hn0 : (n : Int) ≤ 1999999998 := by omega
        clear hn hno h1 h2 ha hb
        go_enter Try.func29, Try.ntmps29
        go_wp2_with fail
        with_reducible refine (I1.out _).mono ?_
        rintro e w' ⟨rfl, rfl⟩
        go_wp2_with fail
        with_reducible refine (I2.out _).mono ?_
        rintro e w' ⟨rfl, rfl⟩
        go_wp2_with fail
        with_reducible refine (AB.out _).mono ?_
        rintro e w' ⟨rfl, rfl⟩
        go_wp2
        exact vec_ret0S rfl rfl rfl rfl (blk_old (blk_new w _ rfl)) (ZS.out _ ((below1 w _).alloc (by simp) _))
    · have hno : ¬ SeqOk a b := fun h => h2 h.2.1
      rw [seqV_no hno, seqS_no hno]
      have I1 := Lib.hid (fun W => inYes a (-999999999) 999999999 W h1.1 h1.2)
      have I2 := Lib.hid (fun W => inNo b (-999999999) 999999999 W (by unfold InW at h2; omega))
      clear hno h1 h2 ha hb
      go_enter Try.func29, Try.ntmps29
      go_wp2_with fail
      with_reducible refine (I1.out _).mono ?_
      rintro e w' ⟨rfl, rfl⟩
      go_wp2_with fail
      with_reducible refine (I2.out _).mono ?_
      rintro e w' ⟨rfl, rfl⟩
      go_wp2
      exact vec_ret0S rfl rfl rfl rfl (blk_old (blk_new w _ rfl)) (ZS.out _ ((below1 w _).alloc (by simp) _))
  · have hno : ¬ SeqOk a b := fun h => h1 h.1
    rw [seqV_no hno, seqS_no hno]
    have I1 := Lib.hid (fun W => inNo a (-999999999) 999999999 W (by unfold InW at h1; omega))
    clear hno h1 ha hb
    go_enter Try.func29, Try.ntmps29
    go_wp2_with fail
    with_reducible refine (I1.out _).mono ?_
    rintro e w' ⟨rfl, rfl⟩
    go_wp2
    exact vec_ret0S rfl rfl rfl rfl (blk_old (blk_new w _ rfl)) (ZS.out _ ((below1 w _).alloc (by simp) _))
theorem wholeYes (x : Int) (w : World) (h : InW x) : Calls Try.prog 67 #[.int .i64 x] w fun e w' => e = .returned (.bool true) ∧ w = w' := by
  have h0 : -999999999 ≤ x := h.1
  have h1 : x ≤ 999999999 := h.2
  go_enter Try.func67, Try.ntmps67
  go_wp2
  go_ret
  exact ⟨rfl, rfl⟩
theorem wholeNo (x : Int) (w : World) (h : ¬ InW x) : Calls Try.prog 67 #[.int .i64 x] w fun e w' => e = .returned (.bool false) ∧ w = w' := by
  by_cases h0 : x < -999999999
  · have h2 : x ≤ 999999999 := by omega
    go_enter Try.func67, Try.ntmps67
    go_wp2
    go_ret
    exact ⟨rfl, rfl⟩
  · have h1 : 999999999 < x := by unfold InW at h; omega
    have h2 : -999999999 ≤ x := by omega
    clear h
    go_enter Try.func67, Try.ntmps67
    go_wp2
    go_ret
    exact ⟨by first | rfl | exact ret_bB (decide_eq_false (by omega)), rfl⟩
theorem implNaN (x : Int) (w : World) : Calls Try.prog 112 #[.int .i64 x] w fun e w' => e = .returned (.bool false) ∧ w = w' := by
  go_enter Try.func112, Try.ntmps112
  go_wp2
  go_ret
  exact ⟨rfl, rfl⟩
/-- -1, 0 or 1. -/
def cmpZ (x y : Int) : Int := if x < y then -1 else if y < x then 1 else 0
theorem implCmp (x y : Int) (w : World) : Calls Try.prog 68 #[.int .i64 x, .int .i64 y] w fun e w' => e = .returned (.int .i64 (cmpZ x y)) ∧ w = w' := by
  have N := Lib.hid (fun x W => implNaN x W)
  by_cases h1 : x < y
  · have X := Lib.hid (show cmpZ x y = -1 by unfold cmpZ; rw [if_pos h1])
    go_enter Try.func68, Try.ntmps68
    go_wp2_with fail
    with_reducible refine (N.out _ _).mono ?_
    rintro e w' ⟨rfl, rfl⟩
    go_wp2_with fail
    with_reducible refine (N.out _ _).mono ?_
    rintro e w' ⟨rfl, rfl⟩
    go_wp2
    go_ret
    exact ⟨ret_i64S X.out.symm, rfl⟩
  · by_cases h2 : y < x
    · have X := Lib.hid (show cmpZ x y = 1 by unfold cmpZ; rw [if_neg h1, if_pos h2])
      go_enter Try.func68, Try.ntmps68
      go_wp2_with (go_at_call 112; with_reducible refine (N.out _ _).mono ?_; rintro e w' ⟨rfl, rfl⟩)
      go_ret
      exact ⟨ret_i64S X.out.symm, rfl⟩
    · have X := Lib.hid (show cmpZ x y = 0 by unfold cmpZ; rw [if_neg h1, if_neg h2])
      obtain rfl : x = y := by omega
      clear h1 h2
      go_enter Try.func68, Try.ntmps68
      go_wp2_with (go_at_call 112; with_reducible refine (N.out _ _).mono ?_; rintro e w' ⟨rfl, rfl⟩)
      go_ret
      exact ⟨ret_i64S X.out.symm, rfl⟩
/-- What an element of the program's list is. -/
theorem seqI_step {a b : Int} (i : Nat) (h : a = b → i = 0) : a + (i : Int) * cmpZ b a = seqI a b i := by
  unfold cmpZ seqI
  by_cases h1 : b < a
  · rw [if_pos h1, if_neg (by omega)]; omega
  · by_cases h2 : a < b
    · rw [if_neg h1, if_pos h2, if_pos (by omega)]; omega
    · have e : a = b := by omega
      rw [if_neg h1, if_neg h2, if_pos (by omega), h e]; simp
def intsF (f : Nat → Int) (n : Nat) : List Value := (List.range n).map (fun i => .int .i64 (f i))
theorem intsF_succ (f : Nat → Int) (n : Nat) : intsF f n ++ [.int .i64 (f n)] = intsF f (n + 1) := by unfold intsF; rw [List.range_succ, List.map_append]; rfl
/-- A row of the call's own that holds ints. -/
theorem ints_of_row {w : World} {B m : Nat} {v : Value} {f : Nat → Int} (h : w.ownsRow B 3 1 v m (intsF f m)) : ∃ sa c, v = .slice sa m c ∧ IntsAt w.heap.size w sa m f := by
  obtain ⟨_, h⟩ := h
  rcases h with ⟨rfl, rfl⟩ | ⟨g, cap, cur, rfl, hB, hg, hc, _, hs, ht⟩
  · exact ⟨none, 0, rfl, fun i hi => absurd hi (Nat.not_lt_zero _)⟩
  · refine ⟨some ⟨g, 0, none⟩, cap, rfl, fun i hi => ⟨g, 0, rfl, (Array.getElem?_eq_some_iff.1 hg).1, ?_⟩⟩
    rw [Nat.zero_add]
    refine cellOf hg ?_
    have h1 : (cur.toList.take (m * 1))[i]? = (intsF f m)[i]? := by rw [ht]
    rw [List.getElem?_take_of_lt (by omega), Array.getElem?_toList] at h1
    rw [h1]; unfold intsF; simp [hi]
/-- What the program's loop keeps: the result's block, the ints so far. -/
structure IntL (w wr : World) (f : Nat → Int) (k : Nat) (v : Value) : Prop where
  res : wr.heap[w.heap.size]? = some (.cells #[.int .i64 0, .slice none 0 0, .slice none 0 0, .slice none 0 0, .slice none 0 0, .slice none 0 0, .int .i64 0, .int .i64 0] 27 (0, 0))
  row : wr.ownsRow (w.heap.size + 1) 3 1 v k (intsF f k)
  below : Below w.heap.size w wr
theorem IntL.next {w wr w1 : World} {f : Nat → Int} {k : Nat} {z : Int} {v v' : Value} {o : Obj} (h : IntL w wr f k v) (hg : (wr.alloc o).grownBy w1 v.ownBlock) (hr : w1.ownsRow (w.heap.size + 1) 3 1 v' (k + 1) (intsF f k ++ [.int .i64 z])) (hz : z = f k) : IntL w w1 f (k + 1) v' := by
  subst hz
  have hlt := (Array.getElem?_eq_some_iff.1 h.res).1
  refine ⟨?_, intsF_succ f k ▸ hr, ?_⟩
  · refine (hg.block _ (by simp; omega) (fun e => ?_)).trans (blk_old h.res)
    have := (h.row.lt _ e.symm).1
    omega
  · exact (h.below.alloc h.below.size o).grown hg (by have := h.below.size; simp; omega) (fun r hr' => by have := (h.row.lt r hr').1; omega)
theorem IntL.start (w : World) (f : Nat → Int) : IntL w (w.alloc (.cells #[.int .i64 0, .slice none 0 0, .slice none 0 0, .slice none 0 0, .slice none 0 0, .slice none 0 0, .int .i64 0, .int .i64 0] 27)) f 0 (.slice none 0 0) := ⟨blk_new w _ rfl, ⟨rfl, .inl ⟨rfl, rfl⟩⟩, below1 w _⟩
set_option maxHeartbeats 4000000 in
theorem implSeq (a b : Int) (w : World) (ha : -9223372036854775808 ≤ a ∧ a ≤ 9223372036854775807) (hb : -9223372036854775808 ≤ b ∧ b ≤ 9223372036854775807) :
    Calls Try.prog 30 #[.int .i64 a, .int .i64 b] w (ResVS 1 (seqV a b) (seqS a b) w) := by
  have ZS := Lib.hid (fun W (hB : Below w.heap.size w W) => zeroS bigB w W hB)
  by_cases h1 : InW a
  · have I1 := Lib.hid (fun W => wholeYes a W h1)
    by_cases h2 : InW b
    · have I2 := Lib.hid (fun W => wholeYes b W h2)
      have a0 : -999999999 ≤ a := h1.1
      have a1 : a ≤ 999999999 := h1.2
      have b0 : -999999999 ≤ b := h2.1
      have b1 : b ≤ 999999999 := h2.2
      by_cases h3 : (b - a).natAbs < 40
      · have hok : SeqOk a b := ⟨h1, h2, h3⟩
        have ST0 := Lib.hid (fun i (hi : i < (b - a).natAbs + 1) => seqI_step (a := a) (b := b) i (fun e => by omega))
        have SI := Lib.hid (fun i (hi : i < (b - a).natAbs + 1) => seqI_in hok hi)
        have IT := Lib.hid (seq_items hok)
        rw [seqV_yes hok, seqS_yes hok]
        obtain ⟨n, hn⟩ : ∃ n, (b - a).natAbs = n := ⟨_, rfl⟩
        rw [hn] at h3 ST0 SI IT ⊢
        obtain ⟨s, hs⟩ : ∃ s, cmpZ b a = s := ⟨_, rfl⟩
        have CM := Lib.hid (fun W => implCmp b a W)
        rw [hs] at CM ST0
        have HS := Lib.hid hs
        have HN := Lib.hid hn
        clear hn hok h1 h2 ha hb hs
        have NV := Lib.hid (fun (W : World) (sa : Option Addr) (c : Nat) (h : IntsAt W.heap.size W sa (n + 1) (seqI a b)) => (by
          have h' := implNumVec sa (n + 1) c (seqI a b) W.heap.size W h (Nat.le_refl _) (by omega) (fun i hi => by have := SI.out i hi; unfold InW at this; omega)
          rw [if_pos (by omega), IT.out] at h'
          exact h' : Calls Try.prog 22 #[.slice sa (n + 1) c] W (ResV 1 (vecOf 2 (itF (seqG a b) (n + 1))) W)))
        obtain ⟨i0, hi0, hz0, hz1, hz2⟩ := info_parts infoInt
        rcases (show a < b ∨ a = b ∨ b < a by omega) with hab | hab | hab
        · have hd0 : b - a ≤ (n : Int) := by have := HN.out; omega
          have hd1 : (n : Int) ≤ b - a := by have := HN.out; omega
          have hd2 : a - b ≤ 0 := by omega
          have hd3 : a < b := hab
          have hs1 : s = 1 := by rw [← HS.out]; unfold cmpZ; rw [if_neg (by omega), if_pos (by omega)]
          subst hs1
          have IL0 := Lib.hid (IntL.start w (seqI a b))
          clear hab
          go_enter Try.func30, Try.ntmps30
          go_wp2_with fail
          with_reducible refine (I1.out _).mono ?_
          rintro e w' ⟨rfl, rfl⟩
          go_wp2_with fail
          with_reducible refine (I2.out _).mono ?_
          rintro e w' ⟨rfl, rfl⟩
          go_wp2_with fail
          with_reducible refine (CM.out _).mono ?_
          rintro e w' ⟨rfl, rfl⟩
          go_wp2
          go_loopw [7, 39] (fun v i wr => ∃ k : Nat, k ≤ n + 1 ∧ i = .int .i64 k ∧ IntL w wr (seqI a b) k v) (fun _ i _ => n + 1 - (intOf i).toNat)
          case atStart => exact ⟨0, Nat.zero_le _, rfl, IL0.out⟩
          case round =>
            obtain ⟨k, hk, rfl, hil⟩ := hrel
            have IL := Lib.hid hil
            clear hil
            by_cases hlt : k < n + 1
            · have OR := Lib.hid (IL.out.row.alloc (.cells #[.int .i64 (a + (k : Int))] 3))
              have EQK := Lib.hid (show a + (k : Int) = seqI a b k by have h := ST0.out k hlt; omega)
              have hkn : (k : Int) ≤ (n : Int) := by omega
              go_wp2_with (at_builtin; refine wpList_append_own _ rfl _ _ 22 rfl (w.heap.size + 1) 3 i0 (.int .i64 0) 1 8 Try.underlying22 hi0 hz0 hz1 hz2 rfl (by decide) _ k (intsF (seqI a b) k) rfl OR.out ⟨wr.heap.size, 0, none⟩ 1 1 [.int .i64 (a + (k : Int))] rfl rfl ?c1 ?c2 ?c3 ?c4 ?c5 ?_)
              case c1 =>
                intro j u hj
                obtain rfl : j = 0 := by have := (List.getElem?_eq_some_iff.1 hj).1; simpa using this
                obtain rfl : Value.int .i64 (a + (k : Int)) = u := by simpa using hj
                rw [addr_add]
                exact cellOf (blk_new wr _ rfl) rfl
              case c2 => intro u hu; obtain rfl := List.mem_singleton.1 hu; rfl
              case c3 => unfold maxLen; omega
              case c4 => omega
              case c5 => have := (Array.getElem?_eq_some_iff.1 IL.out.res).1; simp; omega
              intro v' w1 hown' hgrow _
              have NX := Lib.hid (IL.out.next hgrow hown' EQK.out)
              clear hown' hgrow
              go_wp2
              go_roundw
              case rel => exact ⟨k + 1, by omega, by go_num, NX.out⟩
              case measure => simp [intOf]; omega
            · obtain rfl : k = n + 1 := by omega
              obtain ⟨sa, c, rfl, hints⟩ := ints_of_row IL.out.row
              have HI := Lib.hid hints
              clear hints
              go_wp2_with fail
              with_reducible refine (NV.out _ _ _ HI.out).mono ?_
              rintro e w2 ⟨y, rfl, ho, hb⟩
              obtain ⟨yk, ya1, yn1, ym1, ya2, yn2, ym2, ya3, yn3, ym3, ya4, yn4, ym4, ya5, yn5, ym5, yc, ye, rfl⟩ := ho.agg
              have K0 := Lib.hid (blk_below hb IL.out.res)
              have BB := Lib.hid (below_then IL.out.below hb)
              have HO := Lib.hid ho
              have hlt0 := (Array.getElem?_eq_some_iff.1 IL.out.res).1
              clear ho hb
              obtain ⟨z0, z1, z2, z3, z4, z5, z6, z7⟩ := vec8 K0.out
              obtain ⟨f0, f1, f2, f3, f4, f5, f6, f7⟩ := free8 K0.out
              go_wp2
              exact vec_endS rfl rfl rfl rfl K0.out ⟨_, rfl, (HO.out.put8 hlt0 _ _ _ _ _ _ _ _).wide (Nat.le_of_lt hlt0) (by rw [put8_size]; exact Nat.le_refl _), put8_below BB.out (Nat.le_refl _)⟩
        · have hd0 : (n : Int) ≤ 0 := by have := HN.out; omega
          have hd1 : a ≤ b := by omega
          have hd2 : b ≤ a := by omega
          have hs1 : s = 0 := by rw [← HS.out]; unfold cmpZ; rw [if_neg (by omega), if_neg (by omega)]
          subst hs1
          have IL0 := Lib.hid (IntL.start w (seqI a b))
          clear hab
          go_enter Try.func30, Try.ntmps30
          go_wp2_with fail
          with_reducible refine (I1.out _).mono ?_
          rintro e w' ⟨rfl, rfl⟩
          go_wp2_with fail
          with_reducible refine (I2.out _).mono ?_
          rintro e w' ⟨rfl, rfl⟩
          go_wp2_with fail
          with_reducible refine (CM.out _).mono ?_
          rintro e w' ⟨rfl, rfl⟩
          go_wp2
          go_loopw [7, 39] (fun v i wr => ∃ k : Nat, k ≤ n + 1 ∧ i = .int .i64 k ∧ IntL w wr (seqI a b) k v) (fun _ i _ => n + 1 - (intOf i).toNat)
          case atStart => exact ⟨0, Nat.zero_le _, rfl, IL0.out⟩
          case round =>
            obtain ⟨k, hk, rfl, hil⟩ := hrel
            have IL := Lib.hid hil
            clear hil
            by_cases hlt : k < n + 1
            · have OR := Lib.hid (IL.out.row.alloc (.cells #[.int .i64 (a)] 3))
              have EQK := Lib.hid (show a = seqI a b k by have h := ST0.out k hlt; omega)
              have hkn : (k : Int) ≤ (n : Int) := by omega
              go_wp2_with (at_builtin; refine wpList_append_own _ rfl _ _ 22 rfl (w.heap.size + 1) 3 i0 (.int .i64 0) 1 8 Try.underlying22 hi0 hz0 hz1 hz2 rfl (by decide) _ k (intsF (seqI a b) k) rfl OR.out ⟨wr.heap.size, 0, none⟩ 1 1 [.int .i64 (a)] rfl rfl ?c1 ?c2 ?c3 ?c4 ?c5 ?_)
              case c1 =>
                intro j u hj
                obtain rfl : j = 0 := by have := (List.getElem?_eq_some_iff.1 hj).1; simpa using this
                obtain rfl : Value.int .i64 (a) = u := by simpa using hj
                rw [addr_add]
                exact cellOf (blk_new wr _ rfl) rfl
              case c2 => intro u hu; obtain rfl := List.mem_singleton.1 hu; rfl
              case c3 => unfold maxLen; omega
              case c4 => omega
              case c5 => have := (Array.getElem?_eq_some_iff.1 IL.out.res).1; simp; omega
              intro v' w1 hown' hgrow _
              have NX := Lib.hid (IL.out.next hgrow hown' EQK.out)
              clear hown' hgrow
              go_wp2
              go_roundw
              case rel => exact ⟨k + 1, by omega, by go_num, NX.out⟩
              case measure => simp [intOf]; omega
            · obtain rfl : k = n + 1 := by omega
              obtain ⟨sa, c, rfl, hints⟩ := ints_of_row IL.out.row
              have HI := Lib.hid hints
              clear hints
              go_wp2_with fail
              with_reducible refine (NV.out _ _ _ HI.out).mono ?_
              rintro e w2 ⟨y, rfl, ho, hb⟩
              obtain ⟨yk, ya1, yn1, ym1, ya2, yn2, ym2, ya3, yn3, ym3, ya4, yn4, ym4, ya5, yn5, ym5, yc, ye, rfl⟩ := ho.agg
              have K0 := Lib.hid (blk_below hb IL.out.res)
              have BB := Lib.hid (below_then IL.out.below hb)
              have HO := Lib.hid ho
              have hlt0 := (Array.getElem?_eq_some_iff.1 IL.out.res).1
              clear ho hb
              obtain ⟨z0, z1, z2, z3, z4, z5, z6, z7⟩ := vec8 K0.out
              obtain ⟨f0, f1, f2, f3, f4, f5, f6, f7⟩ := free8 K0.out
              go_wp2
              exact vec_endS rfl rfl rfl rfl K0.out ⟨_, rfl, (HO.out.put8 hlt0 _ _ _ _ _ _ _ _).wide (Nat.le_of_lt hlt0) (by rw [put8_size]; exact Nat.le_refl _), put8_below BB.out (Nat.le_refl _)⟩
        · have hd0 : a - b ≤ (n : Int) := by have := HN.out; omega
          have hd1 : (n : Int) ≤ a - b := by have := HN.out; omega
          have hd2 : b - a ≤ 0 := by omega
          have hd3 : b < a := hab
          have hs1 : s = -1 := by rw [← HS.out]; unfold cmpZ; rw [if_pos (by omega)]
          subst hs1
          have IL0 := Lib.hid (IntL.start w (seqI a b))
          clear hab
          go_enter Try.func30, Try.ntmps30
          go_wp2_with fail
          with_reducible refine (I1.out _).mono ?_
          rintro e w' ⟨rfl, rfl⟩
          go_wp2_with fail
          with_reducible refine (I2.out _).mono ?_
          rintro e w' ⟨rfl, rfl⟩
          go_wp2_with fail
          with_reducible refine (CM.out _).mono ?_
          rintro e w' ⟨rfl, rfl⟩
          go_wp2
          go_loopw [7, 39] (fun v i wr => ∃ k : Nat, k ≤ n + 1 ∧ i = .int .i64 k ∧ IntL w wr (seqI a b) k v) (fun _ i _ => n + 1 - (intOf i).toNat)
          case atStart => exact ⟨0, Nat.zero_le _, rfl, IL0.out⟩
          case round =>
            obtain ⟨k, hk, rfl, hil⟩ := hrel
            have IL := Lib.hid hil
            clear hil
            by_cases hlt : k < n + 1
            · have OR := Lib.hid (IL.out.row.alloc (.cells #[.int .i64 (a + -(k : Int))] 3))
              have EQK := Lib.hid (show a + -(k : Int) = seqI a b k by have h := ST0.out k hlt; omega)
              have hkn : (k : Int) ≤ (n : Int) := by omega
              go_wp2_with (at_builtin; refine wpList_append_own _ rfl _ _ 22 rfl (w.heap.size + 1) 3 i0 (.int .i64 0) 1 8 Try.underlying22 hi0 hz0 hz1 hz2 rfl (by decide) _ k (intsF (seqI a b) k) rfl OR.out ⟨wr.heap.size, 0, none⟩ 1 1 [.int .i64 (a + -(k : Int))] rfl rfl ?c1 ?c2 ?c3 ?c4 ?c5 ?_)
              case c1 =>
                intro j u hj
                obtain rfl : j = 0 := by have := (List.getElem?_eq_some_iff.1 hj).1; simpa using this
                obtain rfl : Value.int .i64 (a + -(k : Int)) = u := by simpa using hj
                rw [addr_add]
                exact cellOf (blk_new wr _ rfl) rfl
              case c2 => intro u hu; obtain rfl := List.mem_singleton.1 hu; rfl
              case c3 => unfold maxLen; omega
              case c4 => omega
              case c5 => have := (Array.getElem?_eq_some_iff.1 IL.out.res).1; simp; omega
              intro v' w1 hown' hgrow _
              have NX := Lib.hid (IL.out.next hgrow hown' EQK.out)
              clear hown' hgrow
              go_wp2
              go_roundw
              case rel => exact ⟨k + 1, by omega, by go_num, NX.out⟩
              case measure => simp [intOf]; omega
            · obtain rfl : k = n + 1 := by omega
              obtain ⟨sa, c, rfl, hints⟩ := ints_of_row IL.out.row
              have HI := Lib.hid hints
              clear hints
              go_wp2_with fail
              with_reducible refine (NV.out _ _ _ HI.out).mono ?_
              rintro e w2 ⟨y, rfl, ho, hb⟩
              obtain ⟨yk, ya1, yn1, ym1, ya2, yn2, ym2, ya3, yn3, ym3, ya4, yn4, ym4, ya5, yn5, ym5, yc, ye, rfl⟩ := ho.agg
              have K0 := Lib.hid (blk_below hb IL.out.res)
              have BB := Lib.hid (below_then IL.out.below hb)
              have HO := Lib.hid ho
              have hlt0 := (Array.getElem?_eq_some_iff.1 IL.out.res).1
              clear ho hb
              obtain ⟨z0, z1, z2, z3, z4, z5, z6, z7⟩ := vec8 K0.out
              obtain ⟨f0, f1, f2, f3, f4, f5, f6, f7⟩ := free8 K0.out
              go_wp2
              exact vec_endS rfl rfl rfl rfl K0.out ⟨_, rfl, (HO.out.put8 hlt0 _ _ _ _ _ _ _ _).wide (Nat.le_of_lt hlt0) (by rw [put8_size]; exact Nat.le_refl _), put8_below BB.out (Nat.le_refl _)⟩
      · have hno : ¬ SeqOk a b := fun h => h3 h.2.2
        rw [seqV_no hno, seqS_no hno]
        rcases (show a < b ∨ b < a by omega) with hab | hab
        · have hd0 : 40 ≤ b - a := by omega
          have hd2 : a - b ≤ 0 := by omega
          have hd3 : a < b := hab
          clear hab hno h1 h2 h3 ha hb
          go_enter Try.func30, Try.ntmps30
          go_wp2_with fail
          with_reducible refine (I1.out _).mono ?_
          rintro e w' ⟨rfl, rfl⟩
          go_wp2_with fail
          with_reducible refine (I2.out _).mono ?_
          rintro e w' ⟨rfl, rfl⟩
          go_wp2
          exact vec_ret0S rfl rfl rfl rfl (blk_new w _ rfl) (ZS.out _ (below1 w _))
        · have hd0 : 40 ≤ a - b := by omega
          have hd2 : b - a ≤ 0 := by omega
          have hd3 : b < a := hab
          clear hab hno h1 h2 h3 ha hb
          go_enter Try.func30, Try.ntmps30
          go_wp2_with fail
          with_reducible refine (I1.out _).mono ?_
          rintro e w' ⟨rfl, rfl⟩
          go_wp2_with fail
          with_reducible refine (I2.out _).mono ?_
          rintro e w' ⟨rfl, rfl⟩
          go_wp2
          exact vec_ret0S rfl rfl rfl rfl (blk_new w _ rfl) (ZS.out _ (below1 w _))
    · have hno : ¬ SeqOk a b := fun h => h2 h.2.1
      rw [seqV_no hno, seqS_no hno]
      have I2 := Lib.hid (fun W => wholeNo b W h2)
      clear hno h1 h2 ha hb
      go_enter Try.func30, Try.ntmps30
      go_wp2_with fail
      with_reducible refine (I1.out _).mono ?_
      rintro e w' ⟨rfl, rfl⟩
      go_wp2_with fail
      with_reducible refine (I2.out _).mono ?_
      rintro e w' ⟨rfl, rfl⟩
      go_wp2
      exact vec_ret0S rfl rfl rfl rfl (blk_new w _ rfl) (ZS.out _ (below1 w _))
  · have hno : ¬ SeqOk a b := fun h => h1 h.1
    rw [seqV_no hno, seqS_no hno]
    have I1 := Lib.hid (fun W => wholeNo a W h1)
    clear hno h1 ha hb
    go_enter Try.func30, Try.ntmps30
    go_wp2_with fail
    with_reducible refine (I1.out _).mono ?_
    rintro e w' ⟨rfl, rfl⟩
    go_wp2
    exact vec_ret0S rfl rfl rfl rfl (blk_new w _ rfl) (ZS.out _ (below1 w _))
end Go.Proofs.Yteigfhenbmhepaa
