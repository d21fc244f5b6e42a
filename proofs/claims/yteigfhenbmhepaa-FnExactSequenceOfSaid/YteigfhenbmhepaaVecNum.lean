/- NumberVector on both sides. -/
import Derived.Test.YteigfhenbmhepaaRows
import Derived.Test.YteigfhenbmhepaaVecLog
import Derived.Test.YteigfhenbmhepaaNumSpecMake
import Derived.Test.YteigfhenbmhepaaNumImplMake
import Derived.WalkKit
import Derived.OwnWalk
import Derived.Deep.DeepCutAuto
import Derived.Lib.Hide
namespace Go.Proofs.Yteigfhenbmhepaa
open Go.RowKit
set_option maxRecDepth 100000
set_option linter.unusedVariables false

def numI (x : Int) : It := ⟨(mkI x 1).n, (mkI x 1).d, ⟨#[]⟩⟩
theorem numI_t (x : Int) : (numI x).t.size ≤ 1048576 := Nat.zero_le _
theorem numI_in (x : Int) : InB (numI x) := by
  have h : mkI x 1 = noI ∨ isN (mkI x 1) = true := by
    unfold mkI; split
    · exact (ofQ_cases _).imp id (fun h => h.1)
    · exact .inl rfl
  rcases h with h | h
  · unfold numI; rw [h]; exact ⟨by decide, by decide, Nat.zero_le _⟩
  · have := isN_iff.1 h
    exact ⟨by unfold numI; simp only; omega, by unfold numI; simp only; omega, Nat.zero_le _⟩
set_option maxHeartbeats 2000000 in
theorem implNumVec (a : Option Addr) (n cap : Nat) (f : Nat → Int) (B : Nat) (w : World) (hs : IntsAt B w a n f) (hB : B ≤ w.heap.size) (hn : n ≤ 1048576) (hin : ∀ i, i < n → -9223372036854775808 ≤ f i ∧ f i ≤ 9223372036854775807) :
    Calls Try.prog 22 #[.slice a n cap] w (ResV 1 (if n ≤ 40 then vecOf 2 (itF (fun i => numI (f i)) n) else noV) w) := by
  by_cases h40 : n ≤ 40
  · rw [if_pos h40]
    have SA := Lib.hid hs
    have ST := Lib.hid (AppL.start w 2)
    clear hs
    go_enter Try.func22, Try.ntmps22
    go_wp2
    go_loopw [13] (fun i wr => ∃ (k : Nat) (sa : Option Addr) (sn sc : Nat), k ≤ n ∧ i = .int .i64 k ∧ AppL w wr 2 (itF (fun i => numI (f i)) k) sa sn sc) (fun i _ => n - (intOf i).toNat)
    case atStart => exact ⟨0, none, 0, 0, Nat.zero_le _, rfl, ST.out⟩
    case round =>
      obtain ⟨k, sa, sn, sc, hk, rfl, hap⟩ := hrel
      have AP := Lib.hid hap
      clear hap
      by_cases hlt : k < n
      · obtain ⟨b, off, rfl, hbB, hc⟩ := (SA.out.below (AP.out.below.mono hB)) k hlt
        have LN := Lib.hid (show (itF (fun i => numI (f i)) k).length ≤ 1048576 by rw [itF_len]; omega)
        have HZ := Lib.hid AP.out.big
        have H := Lib.hid AP.out.heldC
        have OR := Lib.hid AP.out.row
        have FAR := Lib.hid (fun q hq => AP.out.far (q := q) hq)
        have NX := Lib.hid (itF_succ (fun i => numI (f i)) k)
        have IN := hin k hlt
        have CI := Lib.hid (fun W => implMake (f k) 1 W IN ⟨by decide, by decide⟩)
        clear IN
        go_wp2
        refine run_region (ops := (opsOf Try.f22 7)) (S := fun w' => HeldC w w' ([(w.heap.size, 27, #[.int .i64 0, .slice none 0 0, .slice none 0 0, .slice none 0 0, .slice none 0 0, .slice none 0 0, .int .i64 0, .int .i64 0]), (w.heap.size + 1, 27, #[.int .i64 2, .slice sa sn sc, .slice none 0 0, .slice none 0 0, .slice none 0 0, .slice none 0 0, .int .i64 0, .int .i64 0])])) [(0, true), (1, true), (2, true), (3, false), (4, false), (5, false), (6, true), (7, false)] (by kernel_rfl) (by kernel_rfl) (by kernel_rfl) (by kernel_rfl) (by kernel_rfl) (fun _ _ _ _ _ h => h) (heldC_drew H.out) ?_
        have H := Lib.hid (heldC_drew H.out)
        have OR := Lib.hid (ownsRow_below OR.out (below_drew' (Below.refl _ _)))
        refine runC_partV (b := w.heap.size + 1) (by kernel_rfl) (show opAt (opsOf Try.f22 7) 0 = some (some 17, .fieldAddr 27 (.tmp 3) 1, none) from by kernel_rfl) (by kernel_rfl) (by kernel_rfl) (by kernel_rfl) ?_
        refine runC_cell (b := w.heap.size + 1) (j := 1) (v := .slice sa sn sc) load_its (show opAt (opsOf Try.f22 7) 1 = some (some 18, .load 23 (.tmp 17), none) from by kernel_rfl) (by kernel_rfl) (by kernel_rfl) (by kernel_rfl) (List.Mem.tail _ (List.Mem.head _)) rfl ?_
        refine run_mov (v := .int .i64 (f k)) (show opAt (opsOf Try.f22 7) 2 = some (some 19, .move (.tmp 5), none) from by kernel_rfl) (by kernel_rfl) (by kernel_rfl) (by kernel_rfl) ?_
        refine run_call (args := [.int .i64 (f k), .int .i64 1]) (show opAt (opsOf Try.f22 7) 3 = some (some 20, .call { callee := .value (.func 59), args := [(.tmp 19), (.const (.int .i64 1))].toArray, argTypes := [3, 3].toArray }, none) from by kernel_rfl) (by kernel_rfl) (by kernel_rfl) (by kernel_rfl) (by kernel_rfl) ?_
        refine (CI.out _).mono ?_
        rintro en rw1 ⟨rfl, hb⟩
        refine ⟨_, rfl, heldC_call H.out hb, ?_⟩
        have H := Lib.hid (heldC_call H.out hb)
        have OR := Lib.hid (ownsRow_below OR.out hb)
        clear hb
        refine tail_item (numI (f k)) (show opAt (opsOf Try.f22 7) 4 = some (some 21, .buildSlice 23 1 #[(0, (.tmp 20))], none) from by kernel_rfl) (by kernel_rfl) (by kernel_rfl) (show opAt (opsOf Try.f22 7) 5 = some (some 22, .call { callee := .builtin .append, args := [(.tmp 18), (.tmp 21)].toArray, argTypes := [23, 23].toArray }, none) from by kernel_rfl) (by kernel_rfl) (fun _ => by kernel_rfl) (show opAt (opsOf Try.f22 7) 6 = some (some 23, .fieldAddr 27 (.tmp 3) 1, none) from by kernel_rfl) (by kernel_rfl) (by kernel_rfl) (fun _ _ => by kernel_rfl) (show opAt (opsOf Try.f22 7) 7 = some (none, .store 23 (.tmp 23) (.tmp 22), none) from by kernel_rfl) (by kernel_rfl) (by kernel_rfl) H.out OR.out LN.out (Nat.succ_le_of_lt (Array.getElem?_eq_some_iff.1 (heldC_at H.out (List.Mem.tail _ (List.Mem.head _)))).1) (Nat.le_add_right _ 2) (List.Mem.tail _ (List.Mem.head _)) rfl (Nat.lt_succ_self _) (Nat.le_succ _) (fun q hq => FAR.out q hq) ?_
        rintro v' w2 ⟨sa, sn, sc, rfl⟩ hK hO hB hZ hR
        simp only [putAll, Act.put, List.setIfInBounds_toArray, List.set_cons_zero, List.set_cons_succ]
        have AN := Lib.hid (AppL.next (kind := 2) hK hO hB hR)
        clear hK hO hB hR H OR FAR HZ LN
        go_wp2
        go_roundw
        case rel => exact ⟨k + 1, sa, sn, sc, by omega, by go_num, NX.out ▸ AN.out⟩
        case measure => simp [intOf]; omega
      · obtain rfl : k = n := by omega
        have K1 := Lib.hid AP.out.vec
        have K0 := Lib.hid AP.out.res
        have FN := Lib.hid AP.out.fin
        obtain ⟨k0, k1, k2, k3, k4, k5, k6, k7⟩ := vec8 K1.out
        obtain ⟨z0, z1, z2, z3, z4, z5, z6, z7⟩ := vec8 K0.out
        obtain ⟨f0, f1, f2, f3, f4, f5, f6, f7⟩ := free8 K0.out
        go_wp2
        exact vec_end rfl rfl rfl K0.out FN.out
  · rw [if_neg h40]
    have Z := Lib.hid (fun hi W => own_zero w.heap.size hi W)
    clear hs
    go_enter Try.func22, Try.ntmps22
    go_wp2
    exact vec_ret0 rfl rfl rfl (blk_new _ _ rfl) ⟨_, rfl, Z.out _ _, below1 w _⟩
set_option maxHeartbeats 2000000 in
theorem specNumVec (a : Option Addr) (n cap : Nat) (f : Nat → Int) (B : Nat) (w : World) (hs : IntsAt B w a n f) (hB : B ≤ w.heap.size) (hn : n ≤ 1048576) (hin : ∀ i, i < n → -9223372036854775808 ≤ f i ∧ f i ≤ 9223372036854775807) :
    Calls Try.prog 21 #[.slice a n cap] w (ResV 1 (if n ≤ 40 then vecOf 2 (itF (fun i => numI (f i)) n) else noV) w) := by
  by_cases h40 : n ≤ 40
  · rw [if_pos h40]
    have SA := Lib.hid hs
    have ST := Lib.hid (AppL.start w 2)
    clear hs
    go_enter Try.func21, Try.ntmps21
    go_wp2
    go_loopw [4] (fun i wr => ∃ (k : Nat) (sa : Option Addr) (sn sc : Nat), k ≤ n ∧ i = .int .i64 k ∧ AppL w wr 2 (itF (fun i => numI (f i)) k) sa sn sc) (fun i _ => n - (intOf i).toNat)
    case atStart => exact ⟨0, none, 0, 0, Nat.zero_le _, rfl, ST.out⟩
    case round =>
      obtain ⟨k, sa, sn, sc, hk, rfl, hap⟩ := hrel
      have AP := Lib.hid hap
      clear hap
      by_cases hlt : k < n
      · obtain ⟨b, off, rfl, hbB, hc0⟩ := SA.out k hlt
        have LN := Lib.hid (show (itF (fun i => numI (f i)) k).length ≤ 1048576 by rw [itF_len]; omega)
        have HZ := Lib.hid AP.out.big
        have H := Lib.hid AP.out.heldC
        have OR := Lib.hid AP.out.row
        have FAR := Lib.hid (fun q hq => AP.out.far (q := q) hq)
        have NX := Lib.hid (itF_succ (fun i => numI (f i)) k)
        have IN := hin k hlt
        have CI := Lib.hid (fun W => specMake (f k) 1 W IN ⟨by decide, by decide⟩)
        clear IN
        go_wp2
        refine run_region (ops := (opsOf Try.f21 5)) (S := fun w' => HeldC w w' ([(w.heap.size, 27, #[.int .i64 0, .slice none 0 0, .slice none 0 0, .slice none 0 0, .slice none 0 0, .slice none 0 0, .int .i64 0, .int .i64 0]), (w.heap.size + 1, 27, #[.int .i64 2, .slice sa sn sc, .slice none 0 0, .slice none 0 0, .slice none 0 0, .slice none 0 0, .int .i64 0, .int .i64 0])])) [(0, true), (1, true), (2, true), (3, true), (4, true), (5, true), (6, false), (7, false), (8, false), (9, true), (10, false)] (by kernel_rfl) (by kernel_rfl) (by kernel_rfl) (by kernel_rfl) (by kernel_rfl) (fun _ _ _ _ _ h => h) (heldC_drew H.out) ?_
        have H := Lib.hid (heldC_drew H.out)
        have OR := Lib.hid (ownsRow_below OR.out (below_drew' (Below.refl _ _)))
        refine runC_partV (b := w.heap.size + 1) (by kernel_rfl) (show opAt (opsOf Try.f21 5) 0 = some (some 17, .fieldAddr 27 (.tmp 3) 1, none) from by kernel_rfl) (by kernel_rfl) (by kernel_rfl) (by kernel_rfl) ?_
        refine runC_cell (b := w.heap.size + 1) (j := 1) (v := .slice sa sn sc) load_its (show opAt (opsOf Try.f21 5) 1 = some (some 18, .load 23 (.tmp 17), none) from by kernel_rfl) (by kernel_rfl) (by kernel_rfl) (by kernel_rfl) (List.Mem.tail _ (List.Mem.head _)) rfl ?_
        refine run_mov (v := .slice (some ⟨b, off, none⟩) n cap) (show opAt (opsOf Try.f21 5) 2 = some (some 19, .move (.tmp 0), none) from by kernel_rfl) (by kernel_rfl) (by kernel_rfl) (by kernel_rfl) ?_
        refine run_mov (v := .int .i64 ((k : Int))) (show opAt (opsOf Try.f21 5) 3 = some (some 20, .move (.tmp 4), none) from by kernel_rfl) (by kernel_rfl) (by kernel_rfl) (by kernel_rfl) ?_
        refine run_idx1 (n := n) (c := cap) (b := b) (off := off) (k := k) (show opAt (opsOf Try.f21 5) 4 = some (some 21, .indexAddr 22 (.tmp 19) (.tmp 20), none) from by kernel_rfl) (by kernel_rfl) (by kernel_rfl) (by kernel_rfl) (by kernel_rfl) hlt Try.underlying22 (by kernel_rfl) infoInt ?_
        refine runC_old (b := b) (j := off + k) (v := .int .i64 (f k)) load_int (show opAt (opsOf Try.f21 5) 5 = some (some 22, .load 3 (.tmp 21), none) from by kernel_rfl) (by kernel_rfl) (by kernel_rfl) (by kernel_rfl) (Nat.lt_of_lt_of_le hbB hB) hc0 ?_
        refine run_call (args := [.int .i64 (f k), .int .i64 1]) (show opAt (opsOf Try.f21 5) 6 = some (some 23, .call { callee := .value (.func 58), args := [(.tmp 22), (.const (.int .i64 1))].toArray, argTypes := [3, 3].toArray }, none) from by kernel_rfl) (by kernel_rfl) (by kernel_rfl) (by kernel_rfl) (by kernel_rfl) ?_
        refine (CI.out _).mono ?_
        rintro en rw1 ⟨rfl, hb⟩
        refine ⟨_, rfl, heldC_call H.out hb, ?_⟩
        have H := Lib.hid (heldC_call H.out hb)
        have OR := Lib.hid (ownsRow_below OR.out hb)
        clear hb
        refine tail_item (numI (f k)) (show opAt (opsOf Try.f21 5) 7 = some (some 24, .buildSlice 23 1 #[(0, (.tmp 23))], none) from by kernel_rfl) (by kernel_rfl) (by kernel_rfl) (show opAt (opsOf Try.f21 5) 8 = some (some 25, .call { callee := .builtin .append, args := [(.tmp 18), (.tmp 24)].toArray, argTypes := [23, 23].toArray }, none) from by kernel_rfl) (by kernel_rfl) (fun _ => by kernel_rfl) (show opAt (opsOf Try.f21 5) 9 = some (some 26, .fieldAddr 27 (.tmp 3) 1, none) from by kernel_rfl) (by kernel_rfl) (by kernel_rfl) (fun _ _ => by kernel_rfl) (show opAt (opsOf Try.f21 5) 10 = some (none, .store 23 (.tmp 26) (.tmp 25), none) from by kernel_rfl) (by kernel_rfl) (by kernel_rfl) H.out OR.out LN.out (Nat.succ_le_of_lt (Array.getElem?_eq_some_iff.1 (heldC_at H.out (List.Mem.tail _ (List.Mem.head _)))).1) (Nat.le_add_right _ 2) (List.Mem.tail _ (List.Mem.head _)) rfl (Nat.lt_succ_self _) (Nat.le_succ _) (fun q hq => FAR.out q hq) ?_
        rintro v' w2 ⟨sa, sn, sc, rfl⟩ hK hO hB hZ hR
        simp only [putAll, Act.put, List.setIfInBounds_toArray, List.set_cons_zero, List.set_cons_succ]
        have AN := Lib.hid (AppL.next (kind := 2) hK hO hB hR)
        clear hK hO hB hR H OR FAR HZ LN
        go_wp2
        go_roundw
        case rel => exact ⟨k + 1, sa, sn, sc, by omega, by go_num, NX.out ▸ AN.out⟩
        case measure => simp [intOf]; omega
      · obtain rfl : k = n := by omega
        have K1 := Lib.hid AP.out.vec
        have K0 := Lib.hid AP.out.res
        have FN := Lib.hid AP.out.fin
        obtain ⟨k0, k1, k2, k3, k4, k5, k6, k7⟩ := vec8 K1.out
        obtain ⟨z0, z1, z2, z3, z4, z5, z6, z7⟩ := vec8 K0.out
        obtain ⟨f0, f1, f2, f3, f4, f5, f6, f7⟩ := free8 K0.out
        go_wp2
        exact vec_end rfl rfl rfl K0.out FN.out
  · rw [if_neg h40]
    have Z := Lib.hid (fun hi W => own_zero w.heap.size hi W)
    clear hs
    go_enter Try.func21, Try.ntmps21
    go_wp2
    refine wp_loop_rounds 1 ?_
    rw [rounds_succ]
    go_wp2
    exact vec_ret0 rfl rfl rfl (blk_old (blk_new w _ rfl)) ⟨_, rfl, Z.out _ _, (below1 w _).alloc (by simp) _⟩
end Go.Proofs.Yteigfhenbmhepaa
