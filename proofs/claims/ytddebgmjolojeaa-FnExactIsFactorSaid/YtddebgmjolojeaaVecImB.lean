/- The program's tests of a vector's fields, besides its parts. -/
import Derived.Test.YtddebgmjolojeaaRows
import Derived.Test.YtddebgmjolojeaaVecIt
import Derived.Test.YtddebgmjolojeaaVecStrI
import Derived.Test.YtddebgmjolojeaaNumMake
import Derived.Test.YtddebgmjolojeaaRegV
import Derived.WalkKit
import Derived.Lib.Hide
namespace Go.Proofs.Ytddebgmjolojeaa
open Go.RowKit
set_option maxRecDepth 100000
set_option linter.unusedVariables false

def Suits (k : Int) (x : It) : Prop := (k = 1 ∧ x.d = 1 ∧ 0 ≤ x.n ∧ x.n ≤ 1 ∧ x.t.size = 0) ∨ (k = 2 ∧ isN x = true) ∨ (k = 3 ∧ x.n = 0 ∧ x.d = 1 ∧ x.t.size ≤ 60)
theorem itOk_suits {k : Int} {x : It} : ItOk k x ↔ x = noI ∨ Suits k x := Iff.rfl
theorem suits_d {k : Int} {x : It} (h : Suits k x) : x.d ≠ 0 := by
  rcases h with ⟨_, h, _⟩ | ⟨_, h⟩ | ⟨_, _, h, _⟩
  · omega
  · have := (isN_iff.1 h).2.1; omega
  · omega
theorem suitsNo_of {k : Int} {x : It} (h1 : k = 1 → ¬ (x.d = 1 ∧ 0 ≤ x.n ∧ x.n ≤ 1 ∧ x.t.size = 0)) (h2 : k = 2 → isN x = false) (h3 : k = 3 → ¬ (x.n = 0 ∧ x.d = 1 ∧ x.t.size ≤ 60)) : ¬ Suits k x := by
  rintro (⟨e, h⟩ | ⟨e, h⟩ | ⟨e, h⟩)
  · exact h1 e h
  · rw [h2 e] at h; cases h
  · exact h3 e h
theorem isN_one {n : Int} {t : ByteArray} (h0 : 0 ≤ n) (h1 : n ≤ 1) : isN ⟨n, 1, t⟩ = decide (t.size = 0) := by
  unfold isN
  have : Int.gcd n 1 = 1 := by simp
  simp only [this]
  by_cases h : t.size = 0
  · rw [decide_eq_true h]; exact decide_eq_true ⟨h, by omega, by omega, by omega, by omega, trivial⟩
  · rw [decide_eq_false h]; exact decide_eq_false (fun h' => h h'.1)
theorem eql_txt_no {w' : World} {n d : Int} {t : ByteArray} {X Y : Operand} (h : ¬ (n = 0 ∧ d = 1)) :
    (do eqGuard .eql 50 X Y (.agg #[.int .i64 n, .int .i64 d, .string t]) (.agg #[.int .i64 0, .int .i64 1, .string t]); binOp .eql 50 (.agg #[.int .i64 n, .int .i64 d, .string t]) (.agg #[.int .i64 0, .int .i64 1, .string t]) : Sem Value).run Try.prog w' = .ok (.bool false) w' := by
  have hm : Try.prog.eqGuardType Try.prog.depth 50 = false := by kernel_rfl
  rw [Sem.run_bind, run_eqGuard_agg (hm := hm)]
  show (binOp .eql 50 _ _).run Try.prog w' = _
  rw [run_eql_struct]
  by_cases h0 : n = 0
  · have h1 : ¬ d = 1 := fun e => h ⟨h0, e⟩
    simp [go_sem, h0, h1]
  · simp [go_sem, h0]
theorem textItemAny (s : ByteArray) (w : World) :
    Calls Try.prog 51 #[.string s] w fun e w' => e = .returned (.agg #[.int .i64 0, .int .i64 1, .string s]) ∧ Below w.heap.size w w' := by
  go_enter Try.func51, Try.ntmps51
  go_wp2
  first | (exact item_ret0 rfl rfl rfl (blk_new _ _ rfl) ⟨rfl, below1 _ _⟩) | (refine item_ret rfl rfl rfl (blk_new _ _ rfl) ⟨rfl, ?_⟩; exact below_three (below1 _ _) (Nat.le_refl _) _ _ _)

set_option maxHeartbeats 4000000 in
theorem implSuits (k : Int) (x : It) (w : World) (ht : x.t.size ≤ 1048576) :
    Calls Try.prog 46 #[.agg #[.int .i64 x.n, .int .i64 x.d, .string x.t], .int .i64 k] w fun e w' => e = .returned (.bool (bB (Suits k x))) ∧ Below w.heap.size w w' := by
  obtain ⟨n, d, t⟩ := x
  simp only at ht ⊢
  by_cases k3 : k = 3
  · subst k3
    by_cases hne : n = 0 ∧ d = 1
    · obtain ⟨rfl, rfl⟩ := hne
      have CT := Lib.hid (fun w => textItemAny t w)
      by_cases h60 : 60 < t.size
      · have X := Lib.hid (show ¬ Suits 3 ⟨0, 1, t⟩ from suitsNo_of (by omega) (by omega) (fun _ h => by have := h.2.2; simp only at this; omega))
        have CL := Lib.hid (fun w => (by have h := implTooLong t w (by omega); rw [decide_eq_true h60] at h; exact h : Calls Try.prog 44 #[.string t] w fun e w' => e = .returned (.bool true) ∧ w = w'))
        clear h60
        have H := Lib.hid (heldC_one (below1 w _) (blk_new w (.cells #[.int .i64 0, .int .i64 1, .string t] 50) rfl))
        go_enter Try.func46, Try.ntmps46
        go_wp2
        refine run_region (ops := (opsOf Try.f46 5)) (S := fun w' => HeldC w w' ([(w.heap.size, 50, #[.int .i64 0, .int .i64 1, .string t])])) [(0, true), (1, true), (2, true), (3, false), (4, true), (5, true), (6, true), (7, true), (8, false), (9, true), (10, true), (11, true)] (by kernel_rfl) (by kernel_rfl) (by kernel_rfl) (by kernel_rfl) (by kernel_rfl) (fun _ _ _ _ _ h => h) (heldC_drew H.out) ?_
        have H := Lib.hid (heldC_drew H.out)
        refine runC_itm (b := w.heap.size) (show opAt (opsOf Try.f46 5) 0 = some (some 12, .load 50 (.tmp 2), none) from by kernel_rfl) (by kernel_rfl) (by kernel_rfl) (by kernel_rfl) (List.Mem.head _) ?_
        refine runC_partI (b := w.heap.size) (by kernel_rfl) (show opAt (opsOf Try.f46 5) 1 = some (some 13, .fieldAddr 50 (.tmp 2) 2, none) from by kernel_rfl) (by kernel_rfl) (by kernel_rfl) (by kernel_rfl) ?_
        refine runC_cell (b := w.heap.size) (j := 2) (v := .string t) load_text (show opAt (opsOf Try.f46 5) 2 = some (some 14, .load 9 (.tmp 13), none) from by kernel_rfl) (by kernel_rfl) (by kernel_rfl) (by kernel_rfl) (List.Mem.head _) rfl ?_
        refine run_call (args := [.string t]) (show opAt (opsOf Try.f46 5) 3 = some (some 15, .call { callee := .value (.func 51), args := [(.tmp 14)].toArray, argTypes := [9].toArray }, none) from by kernel_rfl) (by kernel_rfl) (by kernel_rfl) (by kernel_rfl) (by kernel_rfl) ?_
        refine (CT.out _).mono ?_
        rintro en rw1 ⟨rfl, hb⟩
        refine ⟨_, rfl, heldC_call H.out hb, ?_⟩
        have H := Lib.hid (heldC_call H.out hb)
        clear hb
        refine run_same (v := .bool true) (p := .agg #[.int .i64 0, .int .i64 1, .string t]) (q := .agg #[.int .i64 0, .int .i64 1, .string t]) (show opAt (opsOf Try.f46 5) 4 = some (some 16, .binOp .eql 50 (.tmp 12) (.tmp 15) 50, none) from by kernel_rfl) (by kernel_rfl) (by kernel_rfl) (by kernel_rfl) (by kernel_rfl) (fun w' => eql_item (x := ⟨0, 1, t⟩) (y := ⟨0, 1, t⟩) rfl) ?_
        refine run_mov (v := .bool true) (show opAt (opsOf Try.f46 5) 5 = some (some 17, .move (.tmp 16), none) from by kernel_rfl) (by kernel_rfl) (by kernel_rfl) (by kernel_rfl) ?_
        refine runC_partI (b := w.heap.size) (by kernel_rfl) (show opAt (opsOf Try.f46 5) 6 = some (some 18, .fieldAddr 50 (.tmp 2) 2, some (5, true)) from by kernel_rfl) (by kernel_rfl) (by kernel_rfl) (by kernel_rfl) ?_
        refine runC_cell (b := w.heap.size) (j := 2) (v := .string t) load_text (show opAt (opsOf Try.f46 5) 7 = some (some 19, .load 9 (.tmp 18), some (5, true)) from by kernel_rfl) (by kernel_rfl) (by kernel_rfl) (by kernel_rfl) (List.Mem.head _) rfl ?_
        refine run_call (args := [.string t]) (show opAt (opsOf Try.f46 5) 8 = some (some 20, .call { callee := .value (.func 44), args := [(.tmp 19)].toArray, argTypes := [9].toArray }, some (5, true)) from by kernel_rfl) (by kernel_rfl) (by kernel_rfl) (by kernel_rfl) (by kernel_rfl) ?_
        refine (CL.out _).mono ?_
        rintro en rw2 ⟨rfl, rfl⟩
        refine ⟨_, rfl, H.out, ?_⟩
        refine run_not (b := true) (show opAt (opsOf Try.f46 5) 9 = some (some 21, .unOp .not 4 (.tmp 20), some (5, true)) from by kernel_rfl) (by kernel_rfl) (by kernel_rfl) (by kernel_rfl) ?_
        refine run_pick (b := true) (v := .bool false) (show opAt (opsOf Try.f46 5) 10 = some (some 22, .pick (.tmp 17) (.tmp 21) (.const (.bool false)), none) from by kernel_rfl) (by kernel_rfl) (by kernel_rfl) (by kernel_rfl) (by kernel_rfl) ?_
        refine run_asg (v := .bool false) (show opAt (opsOf Try.f46 5) 11 = some (some 4, .assign (.tmp 22), none) from by kernel_rfl) (by kernel_rfl) (by kernel_rfl) (by kernel_rfl) ?_
        refine run_done ?_
        simp only [putAll, Act.put, List.setIfInBounds_toArray, List.set_cons_zero, List.set_cons_succ]
        go_wp2
        go_ret
        exact ⟨ret_no X.out, H.out.1⟩
      · have X := Lib.hid (show Suits 3 ⟨0, 1, t⟩ from .inr (.inr ⟨rfl, rfl, rfl, by simp only; omega⟩))
        have CL := Lib.hid (fun w => (by have h := implTooLong t w (by omega); rw [decide_eq_false h60] at h; exact h : Calls Try.prog 44 #[.string t] w fun e w' => e = .returned (.bool false) ∧ w = w'))
        clear h60
        have H := Lib.hid (heldC_one (below1 w _) (blk_new w (.cells #[.int .i64 0, .int .i64 1, .string t] 50) rfl))
        go_enter Try.func46, Try.ntmps46
        go_wp2
        refine run_region (ops := (opsOf Try.f46 5)) (S := fun w' => HeldC w w' ([(w.heap.size, 50, #[.int .i64 0, .int .i64 1, .string t])])) [(0, true), (1, true), (2, true), (3, false), (4, true), (5, true), (6, true), (7, true), (8, false), (9, true), (10, true), (11, true)] (by kernel_rfl) (by kernel_rfl) (by kernel_rfl) (by kernel_rfl) (by kernel_rfl) (fun _ _ _ _ _ h => h) (heldC_drew H.out) ?_
        have H := Lib.hid (heldC_drew H.out)
        refine runC_itm (b := w.heap.size) (show opAt (opsOf Try.f46 5) 0 = some (some 12, .load 50 (.tmp 2), none) from by kernel_rfl) (by kernel_rfl) (by kernel_rfl) (by kernel_rfl) (List.Mem.head _) ?_
        refine runC_partI (b := w.heap.size) (by kernel_rfl) (show opAt (opsOf Try.f46 5) 1 = some (some 13, .fieldAddr 50 (.tmp 2) 2, none) from by kernel_rfl) (by kernel_rfl) (by kernel_rfl) (by kernel_rfl) ?_
        refine runC_cell (b := w.heap.size) (j := 2) (v := .string t) load_text (show opAt (opsOf Try.f46 5) 2 = some (some 14, .load 9 (.tmp 13), none) from by kernel_rfl) (by kernel_rfl) (by kernel_rfl) (by kernel_rfl) (List.Mem.head _) rfl ?_
        refine run_call (args := [.string t]) (show opAt (opsOf Try.f46 5) 3 = some (some 15, .call { callee := .value (.func 51), args := [(.tmp 14)].toArray, argTypes := [9].toArray }, none) from by kernel_rfl) (by kernel_rfl) (by kernel_rfl) (by kernel_rfl) (by kernel_rfl) ?_
        refine (CT.out _).mono ?_
        rintro en rw1 ⟨rfl, hb⟩
        refine ⟨_, rfl, heldC_call H.out hb, ?_⟩
        have H := Lib.hid (heldC_call H.out hb)
        clear hb
        refine run_same (v := .bool true) (p := .agg #[.int .i64 0, .int .i64 1, .string t]) (q := .agg #[.int .i64 0, .int .i64 1, .string t]) (show opAt (opsOf Try.f46 5) 4 = some (some 16, .binOp .eql 50 (.tmp 12) (.tmp 15) 50, none) from by kernel_rfl) (by kernel_rfl) (by kernel_rfl) (by kernel_rfl) (by kernel_rfl) (fun w' => eql_item (x := ⟨0, 1, t⟩) (y := ⟨0, 1, t⟩) rfl) ?_
        refine run_mov (v := .bool true) (show opAt (opsOf Try.f46 5) 5 = some (some 17, .move (.tmp 16), none) from by kernel_rfl) (by kernel_rfl) (by kernel_rfl) (by kernel_rfl) ?_
        refine runC_partI (b := w.heap.size) (by kernel_rfl) (show opAt (opsOf Try.f46 5) 6 = some (some 18, .fieldAddr 50 (.tmp 2) 2, some (5, true)) from by kernel_rfl) (by kernel_rfl) (by kernel_rfl) (by kernel_rfl) ?_
        refine runC_cell (b := w.heap.size) (j := 2) (v := .string t) load_text (show opAt (opsOf Try.f46 5) 7 = some (some 19, .load 9 (.tmp 18), some (5, true)) from by kernel_rfl) (by kernel_rfl) (by kernel_rfl) (by kernel_rfl) (List.Mem.head _) rfl ?_
        refine run_call (args := [.string t]) (show opAt (opsOf Try.f46 5) 8 = some (some 20, .call { callee := .value (.func 44), args := [(.tmp 19)].toArray, argTypes := [9].toArray }, some (5, true)) from by kernel_rfl) (by kernel_rfl) (by kernel_rfl) (by kernel_rfl) (by kernel_rfl) ?_
        refine (CL.out _).mono ?_
        rintro en rw2 ⟨rfl, rfl⟩
        refine ⟨_, rfl, H.out, ?_⟩
        refine run_not (b := false) (show opAt (opsOf Try.f46 5) 9 = some (some 21, .unOp .not 4 (.tmp 20), some (5, true)) from by kernel_rfl) (by kernel_rfl) (by kernel_rfl) (by kernel_rfl) ?_
        refine run_pick (b := true) (v := .bool true) (show opAt (opsOf Try.f46 5) 10 = some (some 22, .pick (.tmp 17) (.tmp 21) (.const (.bool false)), none) from by kernel_rfl) (by kernel_rfl) (by kernel_rfl) (by kernel_rfl) (by kernel_rfl) ?_
        refine run_asg (v := .bool true) (show opAt (opsOf Try.f46 5) 11 = some (some 4, .assign (.tmp 22), none) from by kernel_rfl) (by kernel_rfl) (by kernel_rfl) (by kernel_rfl) ?_
        refine run_done ?_
        simp only [putAll, Act.put, List.setIfInBounds_toArray, List.set_cons_zero, List.set_cons_succ]
        go_wp2
        go_ret
        exact ⟨ret_yes X.out, H.out.1⟩
    · have X := Lib.hid (show ¬ Suits 3 ⟨n, d, t⟩ from suitsNo_of (by omega) (by omega) (fun _ h => hne ⟨h.1, h.2.1⟩))
      have CT := Lib.hid (fun w => textItemAny t w)
      have H := Lib.hid (heldC_one (below1 w _) (blk_new w (.cells #[.int .i64 n, .int .i64 d, .string t] 50) rfl))
      go_enter Try.func46, Try.ntmps46
      go_wp2
      refine run_region (ops := (opsOf Try.f46 5)) (S := fun w' => HeldC w w' ([(w.heap.size, 50, #[.int .i64 n, .int .i64 d, .string t])])) [(0, true), (1, true), (2, true), (3, false), (4, true), (5, true), (6, true), (7, true), (8, false), (9, true), (10, true), (11, true)] (by kernel_rfl) (by kernel_rfl) (by kernel_rfl) (by kernel_rfl) (by kernel_rfl) (fun _ _ _ _ _ h => h) (heldC_drew H.out) ?_
      have H := Lib.hid (heldC_drew H.out)
      refine runC_itm (b := w.heap.size) (show opAt (opsOf Try.f46 5) 0 = some (some 12, .load 50 (.tmp 2), none) from by kernel_rfl) (by kernel_rfl) (by kernel_rfl) (by kernel_rfl) (List.Mem.head _) ?_
      refine runC_partI (b := w.heap.size) (by kernel_rfl) (show opAt (opsOf Try.f46 5) 1 = some (some 13, .fieldAddr 50 (.tmp 2) 2, none) from by kernel_rfl) (by kernel_rfl) (by kernel_rfl) (by kernel_rfl) ?_
      refine runC_cell (b := w.heap.size) (j := 2) (v := .string t) load_text (show opAt (opsOf Try.f46 5) 2 = some (some 14, .load 9 (.tmp 13), none) from by kernel_rfl) (by kernel_rfl) (by kernel_rfl) (by kernel_rfl) (List.Mem.head _) rfl ?_
      refine run_call (args := [.string t]) (show opAt (opsOf Try.f46 5) 3 = some (some 15, .call { callee := .value (.func 51), args := [(.tmp 14)].toArray, argTypes := [9].toArray }, none) from by kernel_rfl) (by kernel_rfl) (by kernel_rfl) (by kernel_rfl) (by kernel_rfl) ?_
      refine (CT.out _).mono ?_
      rintro en rw1 ⟨rfl, hb⟩
      refine ⟨_, rfl, heldC_call H.out hb, ?_⟩
      have H := Lib.hid (heldC_call H.out hb)
      clear hb
      refine run_same (v := .bool false) (p := .agg #[.int .i64 n, .int .i64 d, .string t]) (q := .agg #[.int .i64 0, .int .i64 1, .string t]) (show opAt (opsOf Try.f46 5) 4 = some (some 16, .binOp .eql 50 (.tmp 12) (.tmp 15) 50, none) from by kernel_rfl) (by kernel_rfl) (by kernel_rfl) (by kernel_rfl) (by kernel_rfl) (fun w' => eql_txt_no hne) ?_
      refine run_mov (v := .bool false) (show opAt (opsOf Try.f46 5) 5 = some (some 17, .move (.tmp 16), none) from by kernel_rfl) (by kernel_rfl) (by kernel_rfl) (by kernel_rfl) ?_
      refine run_skip (show opAt (opsOf Try.f46 5) 6 = some (some 18, .fieldAddr 50 (.tmp 2) 2, some (5, true)) from by kernel_rfl) (by kernel_rfl) (by kernel_rfl) ?_
      refine run_skip (show opAt (opsOf Try.f46 5) 7 = some (some 19, .load 9 (.tmp 18), some (5, true)) from by kernel_rfl) (by kernel_rfl) (by kernel_rfl) ?_
      refine run_pass (show opAt (opsOf Try.f46 5) 8 = some (some 20, .call { callee := .value (.func 44), args := [(.tmp 19)].toArray, argTypes := [9].toArray }, some (5, true)) from by kernel_rfl) (by kernel_rfl) (by kernel_rfl) H.out ?_
      refine run_skip (show opAt (opsOf Try.f46 5) 9 = some (some 21, .unOp .not 4 (.tmp 20), some (5, true)) from by kernel_rfl) (by kernel_rfl) (by kernel_rfl) ?_
      refine run_pick (b := false) (v := .bool false) (show opAt (opsOf Try.f46 5) 10 = some (some 22, .pick (.tmp 17) (.tmp 21) (.const (.bool false)), none) from by kernel_rfl) (by kernel_rfl) (by kernel_rfl) (by kernel_rfl) (by kernel_rfl) ?_
      refine run_asg (v := .bool false) (show opAt (opsOf Try.f46 5) 11 = some (some 4, .assign (.tmp 22), none) from by kernel_rfl) (by kernel_rfl) (by kernel_rfl) (by kernel_rfl) ?_
      refine run_done ?_
      simp only [putAll, Act.put, List.setIfInBounds_toArray, List.set_cons_zero, List.set_cons_succ]
      go_wp2
      go_ret
      exact ⟨ret_no X.out, H.out.1⟩
  · by_cases k2 : k = 2
    · subst k2
      have C := Lib.hid (fun w => implIsNum n d t w (by omega))
      have X := Lib.hid (show bB (Suits 2 ⟨n, d, t⟩) = isN ⟨n, d, t⟩ by
        cases h : isN ⟨n, d, t⟩
        · exact bB_no (suitsNo_of (by omega) (fun _ => h) (by omega))
        · exact bB_yes (.inr (.inl ⟨rfl, h⟩)))
      go_enter Try.func46, Try.ntmps46
      go_wp2_with fail
      refine (C.out _).mono ?_
      rintro e w1 ⟨rfl, b⟩
      have B := Lib.hid (below_then (below1 w _) b)
      clear b
      go_wp2
      go_ret
      exact ⟨ret_bB X.out.symm, B.out⟩
    · by_cases k1 : k = 1
      · subst k1
        by_cases d1 : d = 1
        · subst d1
          by_cases n0 : n < 0
          · have X := Lib.hid (show ¬ Suits 1 ⟨n, 1, t⟩ from suitsNo_of (fun _ h => by have h1 := h.1; have h2 := h.2.1; have h3 := h.2.2.1; simp only at h1 h2 h3; omega) (by omega) (by omega))
            go_enter Try.func46, Try.ntmps46
            go_wp2
            go_ret
            exact ⟨ret_no X.out, below1 _ _⟩
          · by_cases n1 : 1 < n
            · have X := Lib.hid (show ¬ Suits 1 ⟨n, 1, t⟩ from suitsNo_of (fun _ h => by have h1 := h.1; have h2 := h.2.1; have h3 := h.2.2.1; simp only at h1 h2 h3; omega) (by omega) (by omega))
              go_enter Try.func46, Try.ntmps46
              go_wp2
              go_ret
              exact ⟨ret_no X.out, below1 _ _⟩
            · have C := Lib.hid (fun w => implIsNum n 1 t w (by omega))
              have X := Lib.hid (show bB (Suits 1 ⟨n, 1, t⟩) = isN ⟨n, 1, t⟩ by
                rw [isN_one (by omega) (by omega)]
                by_cases h : t.size = 0
                · rw [decide_eq_true h]; exact bB_yes (.inl ⟨rfl, rfl, by simp only; omega, by simp only; omega, h⟩)
                · rw [decide_eq_false h]; exact bB_no (suitsNo_of (fun _ h' => h h'.2.2.2) (by omega) (by omega)))
              go_enter Try.func46, Try.ntmps46
              go_wp2_with fail
              refine (C.out _).mono ?_
              rintro e w1 ⟨rfl, b⟩
              have B := Lib.hid (below_then (below1 w _) b)
              clear b
              go_wp2
              go_ret
              exact ⟨ret_bB X.out.symm, B.out⟩
        · have X := Lib.hid (show ¬ Suits 1 ⟨n, d, t⟩ from suitsNo_of (fun _ h => by have h1 := h.1; have h2 := h.2.1; have h3 := h.2.2.1; simp only at h1 h2 h3; omega) (by omega) (by omega))
          go_enter Try.func46, Try.ntmps46
          go_wp2
          go_ret
          exact ⟨ret_no X.out, below1 _ _⟩
      · have X := Lib.hid (show ¬ Suits k ⟨n, d, t⟩ from suitsNo_of (fun h => absurd h k1) (fun h => absurd h k2) (fun h => absurd h k3))
        go_enter Try.func46, Try.ntmps46
        go_wp2
        go_ret
        exact ⟨ret_no X.out, below1 _ _⟩

def IsCode (nl : Nat) (x : It) : Prop := x.d = 1 ∧ 1 ≤ x.n ∧ x.n ≤ nl
theorem implCode (x : It) (al : Option Addr) (nl cl : Nat) (w : World) (hl : nl ≤ 1048576) :
    Calls Try.prog 47 #[.agg #[.int .i64 x.n, .int .i64 x.d, .string x.t], .slice al nl cl] w fun e w' => e = .returned (.bool (bB (IsCode nl x))) ∧ Below w.heap.size w w' := by
  obtain ⟨n, d, t⟩ := x
  simp only
  by_cases h0 : d = 1
  · subst h0
    by_cases h1 : 1 ≤ n
    · by_cases h2 : n ≤ nl
      · have X := Lib.hid (show IsCode nl ⟨n, 1, t⟩ from ⟨rfl, h1, h2⟩)
        go_enter Try.func47, Try.ntmps47
        go_wp2
        go_ret
        exact ⟨ret_bB (by rw [bB_yes X.out] <;> (first | rfl | exact decide_eq_true (by omega) | (simp; done) | (simp; omega))), below1 _ _⟩
      · have X := Lib.hid (show ¬ IsCode nl ⟨n, 1, t⟩ from fun h => by obtain ⟨a, b, c⟩ := h; try dsimp only at a b c; omega)
        go_enter Try.func47, Try.ntmps47
        go_wp2
        go_ret
        exact ⟨ret_bB (by rw [bB_no X.out] <;> (first | rfl | exact decide_eq_false (by omega) | (simp; done) | (simp; omega))), below1 _ _⟩
    · have X := Lib.hid (show ¬ IsCode nl ⟨n, 1, t⟩ from fun h => by obtain ⟨a, b, c⟩ := h; try dsimp only at a b c; omega)
      go_enter Try.func47, Try.ntmps47
      go_wp2
      go_ret
      exact ⟨ret_bB (by rw [bB_no X.out] <;> (first | rfl | exact decide_eq_false (by omega) | (simp; done) | (simp; omega))), below1 _ _⟩
  · have X := Lib.hid (show ¬ IsCode nl ⟨n, d, t⟩ from fun h => by obtain ⟨a, b, c⟩ := h; try dsimp only at a b c; omega)
    go_enter Try.func47, Try.ntmps47
    go_wp2
    go_ret
    exact ⟨ret_bB (by rw [bB_no X.out] <;> (first | rfl | exact decide_eq_false (by omega) | (simp; done) | (simp; omega))), below1 _ _⟩
end Go.Proofs.Ytddebgmjolojeaa
